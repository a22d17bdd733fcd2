import PyProof.Rows.All
import KE.RegKIsAll
import KE.RegKTryMore
import KE.KItem
import PySem.Challenge.RW_paceplan_k35_papers_of_stretches_asked
set_option Elab.async false
set_option linter.all false
set_option maxRecDepth 100000
theorem zx {α β γ:Type} {o:Option α} {f:α->β} {g:α->γ} {a:β} {b:γ} (h1:o.map f=some a) (h2:o.map g=some b):o.map (fun s=>(f s,g s))=some (a,b):=by
 cases o with
 | none=>cases h1
 | some x=>cases h1;cases h2;rfl
namespace HW
open PySem
def keep:List Nat:=[1,2,3,4,5,7,8,9,10,11,12,13,14,15,16,18,19,20,21,22,23,24,25,26,28,30,31,32,33,34,35,36,38,39,40,41,42,43,44,45,46,47,48,49,50,51,52,53,54,55,56,57,58,59,60]
def V:Program:=PySem.W.view PySem.Challenge.pw_paceplan_k35_papers_of_stretches_asked keep
end HW
section HWs
open PySem PySem.W PyProof.Rows
set_option maxHeartbeats 0 in
theorem HWa:∀ w:World,(openEnds treeTable PySem.Challenge.rw_paceplan_k35_papers_of_stretches_asked.row.prog w 7608).map (fun s=>openSeen HW.V [] (importedModules PySem.Challenge.rw_paceplan_k35_papers_of_stretches_asked.row.prog.main.body) (fun s=>xlAt HW.V [] s && recOk PySem.Challenge.rw_paceplan_k35_papers_of_stretches_asked.row.records s) true s)=some (openGood HW.V []):=by
 intro w
 delta openEnds fencedOpening topFrom
 rw [PySem.W.Fast.te14364793385576792824,PySem.W.Fast.te14082659384304107361,PySem.W.Fast.te10274390034422433532,PySem.W.Fast.te1435165496053646825,PySem.W.Fast.te14289696077712309145,PySem.W.Fast.te4187177175401517315]
 kernel_rfl
local macro_rules
 | `(tactic| o_head $H:term) => `(tactic| (
   refine holds_open (q:=HW.V) (loose:=[]) (N:=7608)
    (Xt:=fun s=>xlAt HW.V [] s && recOk (RowW.records (OpenRow.toRowW (OpenLaw.row PySem.Challenge.rw_paceplan_k35_papers_of_stretches_asked))) s)
    (XP:=XL HW.V []) (Yf:=Hook.obs $H) (Ya:=Hook.val $H) (YP:=Hook.says $H)
    ?hl (Hook.of $H) (Hook.keeps $H)
    (fun s e=>xl_of s (Bool.and_eq_true_iff.mp e).1) XL.keeps
    (by rfl) (by rfl) (by rfl)
    (fun s e=>recFacts_of (Bool.and_eq_true_iff.mp e).2) (by rfl) (by assumption) (by decide +kernel)
    ⟨rfl,rfl,rfl,rfl,rfl,by decide +kernel⟩ ?hw ?hc
   (case hl=>
    intro w
    refine zx (HWa w) ?_
    delta openEnds fencedOpening topFrom
    rw [PySem.W.Fast.te14364793385576792824,PySem.W.Fast.te14082659384304107361,PySem.W.Fast.te10274390034422433532,PySem.W.Fast.te1435165496053646825,PySem.W.Fast.te14289696077712309145]
    kernel_rfl)))
set_option maxHeartbeats 0 in
open_top HWtop for PySem.Challenge.rw_paceplan_k35_papers_of_stretches_asked
end HWs
abbrev Fg:=PySem.W.Frag
abbrev cf:=List (PySem.Addr×PySem.Obj)
abbrev cJ:=PySem.Value->PySem.Shared->Prop
theorem G2:0≤PySem.sizeLine:=by decide
theorem iS:1≤PySem.sizeLine:=by decide
theorem dE:2≤PySem.sizeLine:=by decide
theorem Du:3≤PySem.sizeLine:=by decide
theorem Aq:4≤PySem.sizeLine:=by decide
theorem FC:6≤PySem.sizeLine:=by decide
theorem G1:7≤PySem.sizeLine:=by decide
theorem dI:1000≤PySem.sizeLine:=by decide
namespace L2
open PySem PySem.Spec PyProof.Rows
abbrev cZ:=Sum Int Str
def ll:cZ->Value->Bool
 | .inl k,v=>Value.isInt k v
 | .inr x,v=>Value.isStrOf x v
def F2 (w:World):cZ->Int
 | .inl k=>hashInt k
 | .inr x=>hashStr w x
theorem ck:∀ {k:cZ} {v:Value},ll k v=true->(∃ i t,k=Sum.inl i/\v=Value.int i t)∨(∃ x t,k=Sum.inr x/\v=Value.str x t)
 | .inl i,v,h=>by
  obtain⟨t,e⟩:=Value.isInt_shape (k:=i) (v:=v) h
  exact .inl ⟨i,t,rfl,e⟩
 | .inr x,v,h=>by
  obtain⟨t,e⟩:=Value.isStrOf_shape (x:=x) (v:=v) h
  exact .inr ⟨x,t,rfl,e⟩
theorem ve (i:Int) (t:Tok):ll (.inl i) (.int i t)=true:=by simp [ll,Value.isInt]
theorem vd (x:Str) (t:Tok):ll (.inr x) (.str x t)=true:=by simp [ll,Value.isStrOf]
theorem CW (a b:Int):decide ((Sum.inl a:cZ)=Sum.inl b)=(a == b):=by
 by_cases e:a=b
 ·subst e;simp
 ·have h:¬ (Sum.inl a:cZ)=Sum.inl b:=fun q=>e (Sum.inl.inj q)
  rw [decide_eq_false h]
  exact (beq_eq_false_iff_ne.mpr e).symm
theorem CT (a b:Str):decide ((Sum.inr a:cZ)=Sum.inr b)=decide (a=b):=by
 by_cases e:a=b
 ·subst e;simp
 ·have h:¬ (Sum.inr a:cZ)=Sum.inr b:=fun q=>e (Sum.inr.inj q)
  rw [decide_eq_false h,decide_eq_false e]
theorem CV (a:Int) (b:Str):decide ((Sum.inl a:cZ)=Sum.inr b)=false:=decide_eq_false (fun q=>nomatch q)
theorem CU (a:Str) (b:Int):decide ((Sum.inr a:cZ)=Sum.inl b)=false:=decide_eq_false (fun q=>nomatch q)
def b8 (prog:Program) (w:World):PySem.KeyKind prog w cZ where
 is:=ll
 hash:=F2 w
 inj:=fun v a b ha hb=>by
  rcases ck ha with ⟨i,t,rfl,rfl⟩ | ⟨x,t,rfl,rfl⟩
  ·rcases ck hb with ⟨j,u,rfl,e⟩ | ⟨y,u,rfl,e⟩
   ·injection e with e1 _;rw [e1]
   ·exact nomatch e
  ·rcases ck hb with ⟨j,u,rfl,e⟩ | ⟨y,u,rfl,e⟩
   ·exact nomatch e
   ·injection e with e1 _;rw [e1]
 byValue:=fun k v h=>by
  rcases ck h with ⟨i,t,rfl,rfl⟩ | ⟨x,t,rfl,rfl⟩ <;> rfl
 pyHash:=fun hv h=>by
  rcases ck hv with ⟨i,t,rfl,rfl⟩ | ⟨x,t,rfl,rfl⟩
  ·exact wpAny_pyHash_int h
  ·exact wpAny_pyHash_str h
 eqBool:=fun hu hv h=>by
  rcases ck hu with ⟨i,t,rfl,rfl⟩ | ⟨x,t,rfl,rfl⟩
  ·rcases ck hv with ⟨j,u,rfl,rfl⟩ | ⟨y,u,rfl,rfl⟩
   ·rw [CW] at h;exact wpAny_eqBool_int h
   ·rw [CV] at h;exact SeqAt.EqAt.int_str i t y u _ _ _ _ h
  ·rcases ck hv with ⟨j,u,rfl,rfl⟩ | ⟨y,u,rfl,rfl⟩
   ·rw [CU] at h;exact SeqAt.EqAt.str_int x t j u _ _ _ _ h
   ·rw [CT] at h;exact wpAny_eqBool_str h
 «strs»:=fun k x t v h=>by
  rcases ck h with ⟨i,u,rfl,e⟩ | ⟨y,u,rfl,e⟩
  ·exact nomatch e
  ·injection e with e1 _
   subst e1
   cases v <;> rfl
theorem qy (prog:Program) (w:World) (i:Int) (t:Tok):(b8 prog w).is (.inl i) (.int i t)=true:=ve i t
theorem qx (prog:Program) (w:World) (x:Str) (t:Tok):(b8 prog w).is (.inr x) (.str x t)=true:=vd x t
end L2
namespace L2
open PySem PySem.Spec PyProof.Rows
inductive V where
 | non | bl (b:Bool) | int (i:Int) | str (x:Str) | byt (b:Array UInt8) | flt (b:UInt64) | ref (a:Addr) | ty (n:String)
 deriving DecidableEq
def bo:V->Value->Prop
 | .non,u=>u=Value.none
 | .bl b,u=>u=Value.bool b
 | .int i,u=>∃ t,u=Value.int i t
 | .str x,u=>∃ t,u=Value.str x t
 | .byt b,u=>∃ t,u=Value.bytes b t
 | .flt b,u=>∃ t,u=Value.float b t
 | .ref a,u=>u=Value.ref a
 | .ty n,u=>u=Value.type n
abbrev bf:List V->List Value->Prop:=Paired bo
theorem bf.length {xs:List V} {us:List Value} (r:bf xs us):xs.length=us.length:=Paired.length r
theorem bf.get:∀ {xs:List V} {us:List Value} {i:Nat} {x:V},bf xs us->xs[i]?=some x->∃ u,us[i]?=some u/\bo x u
 | _,_,_,_,.nil,e=>by simp at e
 | _,_,0,_,.cons r _,e=>by simp at e;subst e;exact⟨_,rfl,r⟩
 | _,_,i+1,x,.cons _ t,e=>by
  obtain⟨u,h1,h2⟩:=bf.get (i:=i) (x:=x) t (by simpa using e)
  exact⟨u,by simpa using h1,h2⟩
theorem bf.set {x:V} {u:Value} (r:bo x u):∀ {xs:List V} {us:List Value} (i:Nat),bf xs us->bf (xs.set i x) (us.set i u)
 | _,_,_,.nil=>.nil
 | _,_,0,.cons _ t=>.cons r t
 | _,_,i+1,.cons q t=>.cons q (bf.set r i t)
theorem bf.append:∀ {xs ys:List V} {us ws:List Value},bf xs us->bf ys ws->bf (xs++ys) (us++ws)
 | _,_,_,_,.nil,s=>s
 | _,_,_,_,.cons r t,s=>.cons r (bf.append t s)
theorem bf.take:∀ {xs:List V} {us:List Value} (n:Nat),bf xs us->bf (xs.take n) (us.take n)
 | _,_,0,_=>.nil
 | _,_,_+1,.nil=>.nil
 | _,_,n+1,.cons r t=>.cons r (bf.take n t)
theorem bf.drop:∀ {xs:List V} {us:List Value} (n:Nat),bf xs us->bf (xs.drop n) (us.drop n)
 | _,_,0,r=>r
 | _,_,_+1,.nil=>.nil
 | _,_,n+1,.cons _ t=>bf.drop n t
def f7:Option V->Option Value->Prop
 | some v,some u=>bo v u
 | none,none=>True
 | _,_=>False
def KV {κ:Type}:List (κ×V)->List (κ×Value)->Prop:=Paired fun (p:κ×V) (q:κ×Value)=>p.1=q.1/\bo p.2 q.2
def kV:cZ->V
 | .inl i=>.int i
 | .inr x=>.str x
inductive HO where
 | lst (xs:List V)
 | tup (xs:List V)
 | dK (kvs:List (cZ×V)) | dT (kvs:List (List cZ×V))
 | set (S:Int->Bool) (n:Nat)
 | ins (C dx:Addr) (fs:List (Str×V))
 | own (x:Addr)
 | xd (fs:List (Str×V))
 | met (f x:Addr)
 | rng (lo hi:Int)
 | frz (o:Obj) (u:HO)
 | tbl (ps:Array Value)
 | ext (φ:Heap->Prop)
abbrev Hp:=Addr->Option HO
def upd (H:Hp) (a:Addr) (o:HO):Hp:=fun b=>if b=a then some o else H b
theorem af {H:Hp} {a:Addr} {o:HO}:upd H a o a=some o:=by unfold upd;rw [if_pos rfl]
theorem aJ {H:Hp} {a b:Addr} {o:HO} (h:b≠a):upd H a o b=H b:=by unfold upd;rw [if_neg h]
theorem j6 {H:Hp} {a:Addr} {o u:HO}:upd (upd H a o) a u=upd H a u:=by
 funext b;unfold upd;split <;> rfl
theorem EB {H:Hp} {a b:Addr} {o u:HO} (h:H a=some o) (h':H b=some u) (d:o≠u):a≠b:=by
 intro e;subst e;rw [h] at h';exact d (Option.some.inj h')
theorem aV {H:Hp} {a b:Addr} {o:HO} (h:H a=some o) (h':H b=none):a≠b:=by
 intro e;subst e;rw [h] at h';cases h'
section
variable (P:Program) (w:World)
def ObjOk (H:Hp) (h:Heap) (a:Addr):HO->Prop
 | .lst xs=>xs.length≤sizeLine/\∃ (its:List Value) (n:Nat),bf xs its/\h.get? a=some { cls:=.type "list", data:=.seq its.toArray n }
 | .tup xs=>xs.length≤sizeLine/\∃ its:List Value,bf xs its/\IsTup h a its.toArray
 | .dK kvs=>kvs.length≤sizeLine/\(a == sysModules)=false/\∃ vs,KV kvs vs/\h.DictOf (b8 P w) a vs
 | .dT kvs=>kvs.length≤sizeLine/\(a == sysModules)=false/\∃ xs:List (List cZ×Addr×Value),
   Paired (fun (p:List cZ×V) (q:List cZ×Addr×Value)=>p.1=q.1/\H q.2.1=some (.tup (p.1.map kV))/\bo p.2 q.2.2) kvs xs∧
   ∃ o es ep,h.get? a=some o/\o.ExactDict/\o.data=.dict es ep/\es.toList=xs.map (entryOfKey (tupleKind (b8 P w)))/\(xs.map (·.1)).Nodup
 | .set S n=>h.SetOf (intKind P w) a S n
 | .ins C dx fs=>H dx=some (.own a)/\fs.length≤1000/\dx≠a/\h.get? a=some (PySem.W.instObj C dx)∧
   ∃ mA,h.Ns1 dx mA/\(∀ f,f7 (fs.lookup f) (mA f))/\PySem.Within mA (fs.map (·.1))
 | .own _=>∃ o,h.get? a=some o
 | .xd fs=>∃ mA,h.Ns1 a mA/\∀ f,f7 (fs.lookup f) (mA f)
 | .rng lo hi=>∃ t u v,h.get? a=some { cls:=.type "range", data:=.fields #[.int lo t,.int hi u,.int 1 v] }
 | .frz o u=>h.get? a=some o/\ObjOk H h a u
 | .tbl ps=>h.get? a=some { cls:=.none,data:=.fields ps }
 | .met f x=>h.get? a=some (PySem.W.methodObj (.ref f) (.ref x))
 | .ext φ=>φ h/\(∃ o,h.get? a=some o)/\∀ h1 h2:Heap,φ h1->(∀ o,h1.get? a=some o->h2.get? a=some o)->φ h2
def iA (H:Hp) (h:Heap):Prop:=∀ a o,H a=some o->ObjOk P w H h a o
end
section
variable {P:Program} {w:World} {H H':Hp} {h h':Heap} {a:Addr} {o:HO}
theorem ObjOk.lt (x:ObjOk P w H h a o):a < h.objs.size:=by
 cases o with
 | lst xs=>obtain⟨_,_,_,_,e⟩:=x;exact Heap.lt_size e
 | tup xs=>obtain⟨_,_,_,p⟩:=x;exact p.lt
 | dK kvs=>obtain⟨_,_,_,_,o,_,_,e,_⟩:=x;exact Heap.lt_size e
 | dT kvs=>obtain⟨_,_,_,_,o,_,_,e,_⟩:=x;exact Heap.lt_size e
 | set S n=>obtain⟨o,_,_,_,e,_⟩:=x;exact Heap.lt_size e
 | ins C dx fs=>obtain⟨_,_,_,e,_⟩:=x;exact Heap.lt_size e
 | own y=>obtain⟨_,e⟩:=x;exact Heap.lt_size e
 | xd fs=>obtain⟨_,⟨_,_,_,e,_⟩,_⟩:=x;exact Heap.lt_size e
 | rng lo hi=>obtain⟨_,_,_,e⟩:=x;exact Heap.lt_size e
 | frz ob u=>obtain⟨e,_⟩:=x;exact Heap.lt_size e
 | tbl ps=>exact Heap.lt_size (show h.get? a=some _ from x)
 | met f y=>exact Heap.lt_size (show h.get? a=some _ from x)
 | ext φ=>obtain⟨_,⟨_,e⟩,_⟩:=x;exact Heap.lt_size e
theorem Paired.mapP {α β:Type} {F G:α->β->Prop}:∀ {l₁:List α} {l₂:List β},Paired F l₁ l₂->(∀ a b,F a b->G a b)->Paired G l₁ l₂
 | _,_,.nil,_=>.nil
 | _,_,.cons r t,f=>.cons (f _ _ r) (Paired.mapP t f)
theorem ObjOk.stay (x:ObjOk P w H h a o) (k:∀ b u,(b=a∨H b=some (.own a))->h.get? b=some u->h'.get? b=some u)
  (ho:∀ b,H b=some (.own a)->H' b=some (.own a)) (ht:∀ b xs,H b=some (.tup xs)->H' b=some (.tup xs)):ObjOk P w H' h' a o:=by
 induction o with
 | lst xs=>obtain⟨z,its,n,r,e⟩:=x;exact⟨z,its,n,r,k _ _ (.inl rfl) e⟩
 | tup xs=>obtain⟨z,its,r,ob,e,c⟩:=x;exact⟨z,its,r,ob,k _ _ (.inl rfl) e,c⟩
 | dK kvs=>obtain⟨z,y,vs,r,ob,es,ep,e,c⟩:=x;exact⟨z,y,vs,r,ob,es,ep,k _ _ (.inl rfl) e,c⟩
 | dT kvs=>
  obtain⟨z,y,xs,r,ob,es,ep,e,c⟩:=x
  exact⟨z,y,xs,Paired.mapP r fun p q z=>⟨z.1,ht _ _ z.2.1,z.2.2⟩,ob,es,ep,k _ _ (.inl rfl) e,c⟩
 | set S n=>obtain⟨ob,es,ep,t,e,c⟩:=x;exact⟨ob,es,ep,t,k _ _ (.inl rfl) e,c⟩
 | ins C dx fs=>
  obtain⟨d,z,ne,e,mA,⟨od,es,ep,e2,c⟩,r⟩:=x
  exact⟨ho _ d,z,ne,k _ _ (.inl rfl) e,mA,⟨od,es,ep,k _ _ (.inr d) e2,c⟩,r⟩
 | own y=>obtain⟨ob,e⟩:=x;exact⟨ob,k _ _ (.inl rfl) e⟩
 | xd fs=>obtain⟨mA,⟨od,es,ep,e,c⟩,r⟩:=x;exact⟨mA,⟨od,es,ep,k _ _ (.inl rfl) e,c⟩,r⟩
 | rng lo hi=>obtain⟨t,u,v,e⟩:=x;exact⟨t,u,v,k _ _ (.inl rfl) e⟩
 | frz ob u ih=>obtain⟨e,q⟩:=x;exact⟨k _ _ (.inl rfl) e,ih q⟩
 | tbl ps=>
  have e:h.get? a=some { cls:=.none,data:=.fields ps }:=x
  show h'.get? a=some { cls:=.none,data:=.fields ps }
  exact k a _ (.inl rfl) e
 | met f y=>
  have e:h.get? a=some (PySem.W.methodObj (.ref f) (.ref y)):=x
  show h'.get? a=some (PySem.W.methodObj (.ref f) (.ref y))
  exact k a _ (.inl rfl) e
 | ext φ=>obtain⟨p,⟨o,e⟩,st⟩:=x;exact⟨st _ _ p fun o q=>k _ _ (.inl rfl) q,⟨o,k _ _ (.inl rfl) e⟩,st⟩
theorem iA.lt (x:iA P w H h) (e:H a=some o):a < h.objs.size:=(x a o e).lt
theorem iA.fresh (x:iA P w H h) (e:h.objs.size≤a):H a=none:=by
 cases q:H a with
 | none=>rfl
 | some u=>exact absurd (Nat.lt_of_lt_of_le (x.lt q) e) (Nat.lt_irrefl _)
theorem iA.kept (x:iA P w H h) (k:∀ b u,h.get? b=some u->h'.get? b=some u):iA P w H h':=fun a o e=>
 (x a o e).stay (fun b u _ q=>k b u q) (fun _ q=>q) fun _ _ q=>q
theorem iA.laid (x:iA P w H h) (k:∀ b u,h.get? b=some u->h'.get? b=some u) (hp:h.objs.size≤a) (new:ObjOk P w (upd H a o) h' a o):iA P w (upd H a o) h':=fun b u e=>by
 have hn:=x.fresh hp
 by_cases hb:b=a
 ·subst hb;rw [af] at e;cases e;exact new
 ·rw [aJ hb] at e
  exact (x b u e).stay (fun c v _ q=>k c v q) (fun c q=>by rw [aJ (aV q hn)];exact q) fun c xs q=>by rw [aJ (aV q hn)];exact q
end
def Rd (H:Hp) (a:Addr) (u:HO):Prop:=H a=some u∨∃ o,H a=some (.frz o u)
theorem Rd.ok {P:Program} {w:World} {H:Hp} {h:Heap} {a:Addr} {u:HO} (r:Rd H a u) (x:iA P w H h):ObjOk P w H h a u:=by
 rcases r with r | ⟨o,r⟩
 ·exact x a u r
 ·obtain⟨_,q⟩:=x a _ r
  exact q
def EZ:Option HO->Prop
 | some (.lst _)=>True
 | some (.dK _)=>True
 | some (.dT _)=>True
 | some (.set _ _)=>True
 | some (.ins _ _ _)=>True
 | some (.ext _)=>True
 | _=>False
section
variable {P:Program} {w:World} {H:Hp} {h h':Heap} {x e:Addr} {o':HO}
theorem iA.write (ok:iA P w H h) (mu:EZ (H x)) (he:e=x∨H e=some (.own x)) (k:∀ b u,b≠e->h.get? b=some u->h'.get? b=some u) (heo:∃ u,h'.get? e=some u)
  (new:ObjOk P w (upd H x o') h' x o'):iA P w (upd H x o') h':=fun b u q=>by
 have nown:∀ c y,H c=some (.own y)->c≠x:=fun c y r z=>by subst z;rw [r] at mu;exact mu
 have ntup:∀ c xs,H c=some (.tup xs)->c≠x:=fun c xs r z=>by subst z;rw [r] at mu;exact mu
 by_cases hb:b=x
 ·subst hb;rw [af] at q;cases q;exact new
 ·rw [aJ hb] at q
  by_cases hbe:b=e
  ·have q':H b=some (.own x):=by
    rcases he with z | z
    ·exact absurd (hbe.trans z) hb
    ·rw [hbe];exact z
   rw [q] at q';cases q'
   obtain⟨v,hv⟩:=heo
   exact⟨v,by rw [hbe];exact hv⟩
  ·refine (ok b u q).stay (fun c v hc r=>k c v ?_ r) (fun c r=>by rw [aJ (nown c b r)];exact r) fun c xs r=>by rw [aJ (ntup c xs r)];exact r
   rcases hc with rfl | hc
   ·exact hbe
   ·rintro rfl
    rcases he with z | z
    ·exact nown c b hc z
    ·rw [hc] at z;cases z;exact hb rfl
end
structure Un (fs ex:List Addr) (H H':Hp) (h h':Heap):Prop where
 keep:∀ b o,h.get? b=some o->H b=none->b∉fs->b∉ex->h'.get? b=some o
 slot:∀ b o,h.get? b=some o->H b=none->b∈fs->b∉ex->∃ sl,h'.get? b=some { o with slots:=sl }
 free:∀ b o,h.get? b=some o->H b=none->b∉ex->H' b=none
 there:∀ b o,h.get? b=some o->b∉ex->∃ o',h'.get? b=some o'
 tups:∀ b xs,H b=some (.tup xs)->H' b=some (.tup xs)
 frzs:∀ b o u,H b=some (.frz o u)->H' b=some (.frz o u)
 tbls:∀ b ps,H b=some (.tbl ps)->∃ more,H' b=some (.tbl (ps++more))
section
variable {fs fs' ex ex':List Addr} {H H1 H2:Hp} {h h1 h2 h':Heap} {a x e:Addr} {o:HO}
theorem Un.any (u:Un fs ex H H1 h h1) {b:Addr} {ob:Obj} (q:h.get? b=some ob) (n:H b=none) (hx:b∉ex):∃ sl,h1.get? b=some { ob with slots:=sl }:=by
 by_cases hb:b∈fs
 ·exact u.slot b ob q n hb hx
 ·exact⟨ob.slots,u.keep b ob q n hb hx⟩
theorem Un.kept (k:∀ b u,h.get? b=some u->h'.get? b=some u):Un fs ex H H h h':=
 ⟨fun b ob q _ _ _=>k b ob q,fun b ob q _ _ _=>⟨ob.slots,k b ob q⟩,fun _ _ _ n _=>n,fun b ob q _=>⟨ob,k b ob q⟩,fun _ _ q=>q,fun _ _ _ q=>q,fun _ ps q=>⟨#[],by rw [q];simp⟩⟩
theorem Un.refl:Un fs ex H H h h:=Un.kept fun _ _ q=>q
theorem Un.laid (k:∀ b u,h.get? b=some u->h'.get? b=some u) (hp:h.objs.size≤a) (hn:H a=none):Un fs ex H (upd H a o) h h' where
 keep:=fun b u q _ _ _=>k b u q
 slot:=fun b u q _ _ _=>⟨u.slots,k b u q⟩
 free:=fun b u q n _=>by rw [aJ (Nat.ne_of_lt (Nat.lt_of_lt_of_le (Heap.lt_size q) hp))];exact n
 there:=fun b u q _=>⟨u,k b u q⟩
 tups:=fun b xs q=>by rw [aJ (aV q hn)];exact q
 frzs:=fun b u xs q=>by rw [aJ (aV q hn)];exact q
 tbls:=fun b ps q=>⟨#[],by rw [aJ (aV q hn),q];simp⟩
theorem Un.write (mu:EZ (H x)) (he:e=x∨H e=some (.own x)) (k:∀ b u,b≠e->h.get? b=some u->h'.get? b=some u) (heo:∃ u,h'.get? e=some u):Un fs ex H (upd H x o) h h':=by
 have hx:∀ b,H b=none->b≠x:=fun b n z=>by subst z;rw [n] at mu;exact mu
 have hb:∀ b,H b=none->b≠e:=fun b n z=>by
  subst z
  rcases he with r | r
  ·exact hx b n r
  ·rw [n] at r;cases r
 have hm:∀ b u,H b=some u->¬ EZ (some u)->b≠x:=fun b u q nm z=>by subst z;rw [q] at mu;exact nm mu
 refine⟨fun b u q n _ _=>k b u (hb b n) q,fun b u q n _ _=>⟨u.slots,k b u (hb b n) q⟩,fun b u q n _=>by rw [aJ (hx b n)];exact n,fun b u q _=>?_,
  fun b xs q=>by rw [aJ (hm b _ q fun z=>z)];exact q,fun b u xs q=>by rw [aJ (hm b _ q fun z=>z)];exact q,fun b ps q=>⟨#[],by rw [aJ (hm b _ q fun z=>z),q];simp⟩⟩
 by_cases hbe:b=e
 ·subst hbe;exact heo
 ·exact⟨u,k b u hbe q⟩
end
def A6 (h:Heap) (H:Hp):List Addr:=(List.range h.objs.size).filter fun a=>(H a).isSome
def o8 (h:Heap) (H:Hp):Heap:=PySem.W.hideAll h (A6 h H)
theorem vg (h:Heap) (H:Hp):(o8 h H).objs.size=h.objs.size:=PySem.W.hideAll_size _ _
theorem xO {h:Heap} {H:Hp} {b:Addr} {o:Obj} (e:h.get? b=some o) (n:H b=none):(o8 h H).get? b=some o:=
 PySem.W.hideAll_get _ e fun hm=>by
  have q:(H b).isSome=true:=(List.mem_filter.mp hm).2
  rw [n] at q;simp at q
theorem zF {h:Heap} {H:Hp} {b:Addr} {o:Obj} (e:(o8 h H).get? b=some o):h.get? b=some o/\H b=none:=by
 have e':h.get? b=some o:=PySem.W.of_hideAll (A6 h H) e
 refine⟨e',?_⟩
 cases q:H b with
 | none=>rfl
 | some x=>
  have hm:b∈A6 h H:=List.mem_filter.mpr ⟨List.mem_range.mpr (Heap.lt_size e'),by simp [q]⟩
  have z:(o8 h H).get? b=none:=PySem.W.hideAll_none (A6 h H) hm
  rw [z] at e;cases e
def Aj (g h:Heap) (L:Addr):cf:=(List.range h.objs.size).filterMap fun a=>if a=L∨(g.get? a).isSome=true then none else (h.get? a).map fun o=>(a,o)
def cS (g h:Heap) (L d:Addr):cf:=(Aj g h L).filter fun p=>decide (p.1≠d)
end L2
namespace L2
open PySem PySem.Spec PyProof.Rows
structure Mod (K:Fg) (mg:Str->Option Value) (base:Heap):Prop where
 kin:K.In base
 glob:base.Ns mainGlobals mg
 blt:∃ mb,base.Ns builtinsNs mb/\∀ x:Str,x ≠ "__name__" -> mb x=bootBuiltins x
 nolimit:base.NoLimit
structure Cx where
 prog:Program
 w:World
 K:Fg
 mg:Str->Option Value
 base:Heap
 A:Around
 N:List Str
 s₀:Shared
 H₀:Hp
 env:Env
 outer:List Env
 stack:List Env
 ex:List Addr
 fn:Str->Bool
 calm:Bool
 pn:cf
 xe:cJ
def lT (l:List Env):List Addr:=l.filterMap (·.frame)
abbrev Cx.fs (X:Cx):List Addr:=lT X.outer
def Fu (sc:Scope) (x:Str):Prop:=sc.names.lookup x=some .local∨sc.names.lookup x=some .cell∨sc.names.lookup x=some .free
def Ao (sc:Scope) (x:Str):Prop:=sc.names.lookup x=some .local∨sc.names.lookup x=some .cell
def Gc (env:Env) (h:Heap) (m:Str->Option Value) (x:Str) (u:Value):Prop:=
 (env.kindOf x=some .local/\m x=some u)∨((env.kindOf x=some .cell∨env.kindOf x=some .free)/\∃ c,env.cells.lookup x=some c/\h.IsCell c (some u))
structure Cx.Ok (X:Cx):Prop where
 mod:Mod X.K X.mg X.base
 kind:X.env.scope.kind=.function
 glob:X.env.globals=mainGlobals
 blt:X.env.builtins=builtinsNs
 above:X.s₀.heap.objs.size≤X.env.locals
 inj:∀ x y c,X.env.cells.lookup x=some c->X.env.cells.lookup y=some c->x=y
 has:∀ x,(X.env.kindOf x=some .cell∨X.env.kindOf x=some .free)->∃ c,X.env.cells.lookup x=some c
 cab:∀ x c,X.fn x=true->X.env.cells.lookup x=some c->X.s₀.heap.objs.size≤c
 hd:X.calm=true->X.A.handled=none
 frames:X.A.frames=some X.stack
 stk:X.stack=X.outer∨(X.stack=X.env :: X.outer/\X.env.frame=some X.env.locals)
 exf:∀ b∈X.ex,b≠X.env.locals/\∀ x c,X.env.cells.lookup x=some c->c≠b
 bs:∀ b o,X.base.get? b=some o->X.s₀.heap.get? b=some o/\X.H₀ b=none
 bsz:X.base.objs.size≤X.s₀.heap.objs.size
 noex:∀ b o,X.base.get? b=some o->b∉X.ex
 exfs:∀ b∈X.ex,b∉X.fs
 funs:X.s₀.heap.FunFrames X.base X.outer
 frf:∀ b∈X.fs,X.H₀ b=none
structure Inv (X:Cx) (pins:cf) (σ:List (Option V)) (H:Hp) (s:Shared):Prop where
 ok:X.Ok
 os:s.os=X.s₀.os
 bare:AllBare s.gens
 base:Un X.fs X.ex X.H₀ H X.s₀.heap s.heap
 loc:∃ m,s.heap.Ns X.env.locals m/\∀ (i:Nat) (x:Str) (v:V),X.N[i]?=some x->σ[i]?=some (some v)->Fu X.env.scope x->∃ u,bo v u/\Gc X.env s.heap m x u
 cell:∀ x c,X.env.cells.lookup x=some c->∃ v,s.heap.IsCell c v
 free:H X.env.locals=none
 freeC:∀ x c,X.env.cells.lookup x=some c->H c=none
 pin:∀ p∈X.pn++pins,s.heap.get? p.1=some p.2/\H p.1=none/\p.1≠X.env.locals/\p.1∉X.fs/\∀ v,p.2.data≠.cell v
 hok:iA X.prog X.w H s.heap
 len:σ.length=X.N.length
section
variable {X:Cx} {pins:cf} {σ:List (Option V)} {H H':Hp} {s:Shared} {h':Heap}
theorem Cx.Ok.nofr (ok:X.Ok) {b:Addr} {o:Obj} (e:X.base.get? b=some o):b∉X.fs:=fun hb=>by
 have:=(ok.funs.mem hb).1
 rw [e] at this;cases this
theorem Inv.bs (I:Inv X pins σ H s):∀ b o,X.base.get? b=some o->s.heap.get? b=some o/\H b=none:=fun b o e=>
 ⟨I.base.keep b o (I.ok.bs b o e).1 (I.ok.bs b o e).2 (I.ok.nofr e) (I.ok.noex b o e),I.base.free b o (I.ok.bs b o e).1 (I.ok.bs b o e).2 (I.ok.noex b o e)⟩
theorem Inv.bk (I:Inv X pins σ H s):∀ b o,X.base.get? b=some o->s.heap.get? b=some o:=fun b o e=>(I.bs b o e).1
theorem Inv.mod (I:Inv X pins σ H s):Mod X.K X.mg X.base:=I.ok.mod
theorem Inv.kIn (I:Inv X pins σ H s):X.K.In s.heap:=I.ok.mod.kin.keeps I.bk
theorem Inv.lt (I:Inv X pins σ H s):X.env.locals < s.heap.objs.size:=let ⟨_,hn,_⟩:=I.loc;hn.lt
theorem Inv.sz (I:Inv X pins σ H s):X.s₀.heap.objs.size≤s.heap.objs.size:=Nat.le_trans I.ok.above (Nat.le_of_lt I.lt)
theorem Inv.nofs (I:Inv X pins σ H s) {a:Addr} (h:s.heap.objs.size≤a):a∉X.fs:=fun hb=>by
 obtain⟨_,o,ho,_⟩:=I.ok.funs.mem hb
 exact absurd (Nat.lt_of_lt_of_le (Heap.lt_size ho) (Nat.le_trans I.sz h)) (Nat.lt_irrefl _)
theorem Inv.cne (I:Inv X pins σ H s):∀ x c,X.env.cells.lookup x=some c->c≠X.env.locals:=fun x c e z=>by
 obtain⟨v,o,ho,hd⟩:=I.cell x c e
 obtain⟨m,⟨o',es,ep,ho',hd',_⟩,_⟩:=I.loc
 rw [z,ho'] at ho;cases ho;rw [hd'] at hd;cases hd
theorem Inv.funs (I:Inv X pins σ H s):s.heap.FunFrames X.base X.outer:=by
 have all:∀ (l:List Env),(∀ b∈lT l,b∈X.fs)->X.s₀.heap.FunFrames X.base l->s.heap.FunFrames X.base l:=by
  intro l
  induction l with
  | nil=>intro _ _;trivial
  | cons env r ih=>
   intro hs hl
   obtain⟨hk,⟨L,o,hf,hn,ho,hd⟩,hr⟩:=hl
   have hL:L∈X.fs:=hs L (by unfold lT;rw [List.filterMap_cons,hf];exact List.mem_cons_self)
   obtain⟨sl,e⟩:=I.base.slot L o ho (I.ok.frf L hL) hL fun z=>I.ok.exfs L z hL
   exact⟨hk,⟨L,_,hf,hn,e,hd⟩,ih (fun b hb=>hs b (by unfold lT;rw [List.filterMap_cons,hf];exact List.mem_cons_of_mem _ hb)) hr⟩
 exact all X.outer (fun _ hb=>hb) I.ok.funs
theorem Inv.stack (I:Inv X pins σ H s):s.heap.FunFrames X.base X.stack:=by
 rcases I.ok.stk with e | ⟨e,hf⟩
 ·rw [e];exact I.funs
 ·rw [e]
  obtain⟨m,hn,_⟩:=I.loc
  refine .cons (by rw [I.ok.kind];decide) hf hn ?_ I.funs
  exact Heap.get?_none_of_le (Nat.le_trans I.ok.bsz I.ok.above)
theorem Inv.stkSub (I:Inv X pins σ H s):∀ b∈lT X.stack,b∈X.env.locals :: X.fs:=fun b hb=>by
 rcases I.ok.stk with e | ⟨e,hf⟩
 ·rw [e] at hb;exact List.mem_cons_of_mem _ hb
 ·rw [e] at hb
  unfold lT at hb
  rw [List.filterMap_cons,hf] at hb
  exact hb
theorem Inv.stkFree (I:Inv X pins σ H s):∀ b∈lT X.stack,H b=none:=fun b hb=>by
 rcases List.mem_cons.mp (I.stkSub b hb) with e | hb
 ·rw [e];exact I.free
 ·obtain⟨_,o,ho,_⟩:=I.ok.funs.mem hb
  exact I.base.free b o ho (I.ok.frf b hb) fun z=>I.ok.exfs b z hb
theorem Inv.step {g':Array GenState} {t':Nat} {d':Drawn} {ch:List Addr} (I:Inv X pins σ H s)
  (hch:∀ b∈ch,(b∈X.ex∨X.s₀.heap.get? b=none)/\b≠X.env.locals/\(∀ x c,X.env.cells.lookup x=some c->c≠b)/\∀ p∈X.pn++pins,p.1≠b)
  (keep:∀ b o,b≠X.env.locals->b∉X.fs->b∉ch->s.heap.get? b=some o->H b=none->h'.get? b=some o)
  (slot:∀ b o,b≠X.env.locals->b∈X.fs->b∉ch->s.heap.get? b=some o->H b=none->∃ sl,h'.get? b=some { o with slots:=sl }) (free:∀ b o,b∉ch->s.heap.get? b=some o->H b=none->H' b=none)
  (there:∀ b o,b∉ch->s.heap.get? b=some o->∃ o',h'.get? b=some o')
  (tups:∀ b xs,H b=some (.tup xs)->H' b=some (.tup xs)) (frzs:∀ b o u,H b=some (.frz o u)->H' b=some (.frz o u)) (tbls:∀ b ps,H b=some (.tbl ps)->∃ more,H' b=some (.tbl (ps++more)))
  (ns:∀ m,s.heap.Ns X.env.locals m->h'.Ns X.env.locals m) (hok:iA X.prog X.w H' h') (hg:AllBare g') :
  Inv X pins σ H' { s with heap:=h',gens:=g',drawn:=d',toks:=t' }:=by
 have neL:∀ b o,X.s₀.heap.get? b=some o->b≠X.env.locals:=fun b o e=>Nat.ne_of_lt (Nat.lt_of_lt_of_le (Heap.lt_size e) I.ok.above)
 have neC:∀ b o,X.s₀.heap.get? b=some o->b∉X.ex->b∉ch:=fun b o e hx hb=>by
  rcases (hch b hb).1 with z | z
  ·exact hx z
  ·rw [e] at z;cases z
 have cellK:∀ x c,X.env.cells.lookup x=some c->∀ v,s.heap.IsCell c v->h'.IsCell c v:=fun x c e v ⟨o,ho,hd⟩=>by
  have nch:c∉ch:=fun z=>(hch c z).2.2.1 x c e rfl
  by_cases hc:c∈X.fs
  ·obtain⟨sl,q⟩:=slot c o (I.cne x c e) hc nch ho (I.freeC x c e)
   exact⟨_,q,hd⟩
  ·exact⟨o,keep c o (I.cne x c e) hc nch ho (I.freeC x c e),hd⟩
 refine⟨I.ok,I.os,hg,⟨fun b o e n hb hx=>?_,fun b o e n hb hx=>?_,fun b o e n hx=>?_,fun b o e hx=>?_,fun b xs e=>tups b xs (I.base.tups b xs e),fun b o xs e=>frzs b o xs (I.base.frzs b o xs e),fun b ps e=>?_⟩,?_,fun x c e=>?_,?_,fun x c e=>?_,fun p hp=>?_,hok,I.len⟩
 ·exact keep b o (neL b o e) hb (neC b o e hx) (I.base.keep b o e n hb hx) (I.base.free b o e n hx)
 ·obtain⟨sl,e1⟩:=I.base.slot b o e n hb hx
  obtain⟨sl',e2⟩:=slot b _ (neL b o e) hb (neC b o e hx) e1 (I.base.free b o e n hx)
  exact⟨sl',e2⟩
 ·obtain⟨o',e1⟩:=I.base.there b o e hx
  exact free b o' (neC b o e hx) e1 (I.base.free b o e n hx)
 ·obtain⟨o',e1⟩:=I.base.there b o e hx
  exact there b o' (neC b o e hx) e1
 ·obtain⟨m1,e1⟩:=I.base.tbls b ps e
  obtain⟨m2,e2⟩:=tbls b _ e1
  exact⟨m1++m2,by rw [e2,Array.append_assoc]⟩
 ·obtain⟨m,hn,hl⟩:=I.loc
  refine⟨m,ns m hn,fun i x v e1 e2 e3=>?_⟩
  obtain⟨u,r,l⟩:=hl i x v e1 e2 e3
  refine⟨u,r,?_⟩
  rcases l with l | ⟨k,c,e,z⟩
  ·exact .inl l
  ·exact .inr ⟨k,c,e,cellK x c e _ z⟩
 ·obtain⟨v,z⟩:=I.cell x c e
  exact⟨v,cellK x c e v z⟩
 ·obtain⟨m,⟨o,_,_,ho,_⟩,_⟩:=I.loc
  exact free _ o (fun z=>(hch _ z).2.1 rfl) ho I.free
 ·obtain⟨v,o,ho,hd⟩:=I.cell x c e
  exact free c o (fun z=>(hch c z).2.2.1 x c e rfl) ho (I.freeC x c e)
 ·obtain⟨e,n,ne,nf,d⟩:=I.pin p hp
  have nch:p.1∉ch:=fun z=>(hch p.1 z).2.2.2 p hp rfl
  exact⟨keep p.1 p.2 ne nf nch e n,free p.1 p.2 nch e n,ne,nf,d⟩
theorem Inv.un {t':Nat} (I:Inv X pins σ H s) (u:Un X.fs [] H H' s.heap h') (hok:iA X.prog X.w H' h'):Inv X pins σ H' { s with heap:=h',toks:=t' }:=by
 obtain⟨m,⟨o,es,ep,ho,r⟩,_⟩:=id I.loc
 obtain⟨sl,hL⟩:=u.any ho I.free (by simp)
 exact I.step (g':=s.gens) (d':=s.drawn) (ch:=[]) (fun _ z=>nomatch z) (fun b o _ hb _ e n=>u.keep b o e n hb (by simp)) (fun b o _ hb _ e n=>u.slot b o e n hb (by simp)) (fun b o _ e n=>u.free b o e n (by simp)) (fun b o _ e=>u.there b o e (by simp)) u.tups u.frzs u.tbls (fun m' hm=>by
  obtain⟨o',es',ep',ho',r'⟩:=hm
  rw [ho] at ho';cases ho'
  exact⟨_,es',ep',hL,r'⟩) hok I.bare
theorem Inv.call {g':Array GenState} {t':Nat} {d':Drawn} {ch:List Addr} (I:Inv X pins σ H s) (u:Un (lT X.stack) ch H H' s.heap h') (hok:iA X.prog X.w H' h') (hg:AllBare g')
  (hch:∀ b∈ch,(b∈X.ex∨X.s₀.heap.get? b=none)/\b≠X.env.locals/\(∀ x c,X.env.cells.lookup x=some c->c≠b)/\∀ p∈X.pn++pins,p.1≠b) :
  Inv X pins σ H' { s with heap:=h',gens:=g',drawn:=d',toks:=t' }:=by
 obtain⟨m,⟨o,es,ep,ho,r⟩,_⟩:=id I.loc
 obtain⟨sl,hL⟩:=u.any ho I.free fun z=>(hch _ z).2.1 rfl
 exact I.step (ch:=ch) hch (fun b o hL hb hc e n=>u.keep b o e n (fun z=>(List.mem_cons.mp (I.stkSub b z)).elim hL hb) hc) (fun b o _ _ hc e n=>u.any e n hc) (fun b o hc e n=>u.free b o e n hc) (fun b o hc e=>u.there b o e hc) u.tups u.frzs u.tbls (fun m' hm=>by
  obtain⟨o',es',ep',ho',r'⟩:=hm
  rw [ho] at ho';cases ho'
  exact⟨_,es',ep',hL,r'⟩) hok hg
theorem Inv.turned {t':Nat} {it:Addr} (I:Inv X pins σ H s) (k:∀ b o,b≠it->s.heap.get? b=some o->h'.get? b=some o) (hn:H it=none) (hL:it≠X.env.locals)
  (h1:it∈X.ex∨X.s₀.heap.get? it=none) (h2:∀ x c,X.env.cells.lookup x=some c->c≠it) (h3:∀ p∈X.pn++pins,p.1≠it):Inv X pins σ H { s with heap:=h',toks:=t' }:=by
 have nit:∀ b u,H b=some u->b≠it:=fun b u e z=>by rw [z,hn] at e;cases e
 refine I.step (g':=s.gens) (d':=s.drawn) (ch:=[it]) (fun b hb=>?_) (fun b o _ _ hc e _=>k b o (fun z=>hc (by simp [z])) e) (fun b o _ _ hc e _=>⟨o.slots,k b o (fun z=>hc (by simp [z])) e⟩) (fun _ _ _ _ n=>n)
  (fun b o hc e=>⟨o,k b o (fun z=>hc (by simp [z])) e⟩) (fun _ _ e=>e) (fun _ _ _ e=>e) (fun b ps e=>⟨#[],by rw [e];simp⟩) (fun m hm=>?_) (fun b u e=>?_) I.bare
 ·have e:b=it:=by simpa using hb
  subst e
  exact⟨h1,hL,h2,h3⟩
 ·obtain⟨o,es,ep,ho,r⟩:=hm
  exact⟨o,es,ep,k _ o (Ne.symm hL) ho,r⟩
 ·refine (I.hok b u e).stay (fun c v hc q=>k c v ?_ q) (fun _ q=>q) fun _ _ q=>q
  rcases hc with z | z
  ·rw [z];exact nit b u e
  ·exact nit c _ z
theorem Inv.tok (I:Inv X pins σ H s) (t:Nat):Inv X pins σ H { s with toks:=t }:=I.un (h':=s.heap) (t':=t) Un.refl I.hok
theorem Inv.kept {t':Nat} (I:Inv X pins σ H s) (k:∀ b u,s.heap.get? b=some u->h'.get? b=some u):Inv X pins σ H { s with heap:=h',toks:=t' }:=I.un (Un.kept k) (I.hok.kept k)
theorem Inv.laid {a:Addr} {o:HO} {t':Nat} (I:Inv X pins σ H s) (k:∀ b u,s.heap.get? b=some u->h'.get? b=some u) (hp:s.heap.objs.size≤a) (new:ObjOk X.prog X.w (upd H a o) h' a o) :
  Inv X pins σ (upd H a o) { s with heap:=h',toks:=t' }:=I.un (Un.laid k hp (I.hok.fresh hp)) (I.hok.laid k hp new)
theorem Inv.write {x e:Addr} {o:HO} {t':Nat} (I:Inv X pins σ H s) (mu:EZ (H x)) (he:e=x∨H e=some (.own x)) (k:∀ b u,b≠e->s.heap.get? b=some u->h'.get? b=some u) (heo:∃ u,h'.get? e=some u)
  (new:ObjOk X.prog X.w (upd H x o) h' x o):Inv X pins σ (upd H x o) { s with heap:=h',toks:=t' }:=I.un (Un.write mu he k heo) (I.hok.write mu he k heo new)
theorem Inv.weak {σ':List (Option V)} (I:Inv X pins σ H s) (hl:σ'.length=σ.length) (w:∀ (i:Nat) v,σ'[i]?=some (some v)->σ[i]?=some (some v)):Inv X pins σ' H s:=
 ⟨I.ok,I.os,I.bare,I.base,let ⟨m,hn,hl'⟩:=I.loc;⟨m,hn,fun i x v e1 e2 e3=>hl' i x v e1 (w i v e2) e3⟩,I.cell,I.free,I.freeC,I.pin,I.hok,hl.trans I.len⟩
theorem Inv.pins_of {pins':cf} (I:Inv X pins σ H s) (h:∀ p∈pins',s.heap.get? p.1=some p.2/\H p.1=none/\p.1≠X.env.locals/\p.1∉X.fs/\∀ v,p.2.data≠.cell v):Inv X pins' σ H s:=
 ⟨I.ok,I.os,I.bare,I.base,I.loc,I.cell,I.free,I.freeC,fun p hp=>(List.mem_append.mp hp).elim (fun z=>I.pin p (List.mem_append_left _ z)) (h p),I.hok,I.len⟩
theorem kS {N:List Str} (hN:N.Nodup) {i j:Nat} {x:Str} (a:N[i]?=some x) (b:N[j]?=some x):i=j:=by
 obtain⟨h1,e1⟩:=List.getElem?_eq_some_iff.mp a
 obtain⟨h2,e2⟩:=List.getElem?_eq_some_iff.mp b
 exact (List.getElem_inj hN).mp (e1.trans e2.symm)
theorem uC {M:Model} {A:Around} {E:cJ} {i:Nat} {x:Str} {v:V} {u:Value} {Q:Unit->Shared->Prop} (I:Inv X pins σ H s) (hN:X.N.Nodup) (hi:X.N[i]?=some x) (hx:Ao X.env.scope x) (r:bo v u)
  (h:∀ s',Inv X pins (σ.set i (some v)) H s'->(∃ a,Heap.SameBut a s.heap s'.heap/\(a=X.env.locals∨X.env.cells.lookup x=some a))->Q () s') (hf:X.fn x=true∨X.env.scope.names.lookup x=some .local:=by first | exact .inl rfl | exact .inr rfl | assumption):wpAny M A (storeName X.env x u) Q E s:=by
 obtain⟨m,hn,hl⟩:=id I.loc
 have hcls:(X.env.scope.kind == .class || (X.env.scope.kind == .module && X.env.locals != X.env.globals))=false:=by rw [I.ok.kind];rfl
 have hiσ:i < σ.length:=by rw [I.len];exact (List.getElem?_eq_some_iff.mp hi).1
 have cne:=I.cne
 have tracked:∀ {a:Addr} {h':Heap},(∃ o,s.heap.get? a=some o/\H a=none)->Heap.SameBut a s.heap h'->iA X.prog X.w H h':=fun {a h'} ha hs b ob e=>by
  obtain⟨_,_,hfree⟩:=ha
  refine (I.hok b ob e).stay (fun c w' hc q=>(hs.2 c ?_).trans q) (fun _ q=>q) fun _ _ q=>q
  rintro rfl
  rcases hc with rfl | hc
  ·rw [hfree] at e;cases e
  ·rw [hfree] at hc;cases hc
 rcases hx with hk | hk
 ·refine wpAny_storeName_local hk hn (fun h' hn' hs=>?_) hcls
  obtain⟨oL,_,_,hoL,_⟩:=id hn
  refine h _ ⟨I.ok,I.os,I.bare,⟨fun b o e n hb hx=>?_,fun b o e n hb hx=>?_,I.base.free,fun b o e hx=>?_,I.base.tups,I.base.frzs,I.base.tbls⟩,⟨_,hn',fun j y v' e1 e2 e3=>?_⟩,fun y c e=>?_,I.free,I.freeC,fun p hp=>?_,tracked ⟨oL,hoL,I.free⟩ hs,by simpa using I.len⟩ ⟨_,hs,.inl rfl⟩
  ·exact (hs.2 b (Nat.ne_of_lt (Nat.lt_of_lt_of_le (Heap.lt_size e) I.ok.above))).trans (I.base.keep b o e n hb hx)
  ·obtain⟨sl,e1⟩:=I.base.slot b o e n hb hx
   exact⟨sl,(hs.2 b (Nat.ne_of_lt (Nat.lt_of_lt_of_le (Heap.lt_size e) I.ok.above))).trans e1⟩
  ·obtain⟨o',e1⟩:=I.base.there b o e hx
   exact⟨o',(hs.2 b (Nat.ne_of_lt (Nat.lt_of_lt_of_le (Heap.lt_size e) I.ok.above))).trans e1⟩
  ·by_cases hj:j=i
   ·subst hj
    rw [hi] at e1;cases e1
    rw [List.getElem?_set_self hiσ] at e2
    cases e2
    exact⟨u,r,.inl ⟨hk,by simp⟩⟩
   ·rw [List.getElem?_set_ne (Ne.symm hj)] at e2
    obtain⟨u',r',q⟩:=hl j y v' e1 e2 e3
    refine⟨u',r',?_⟩
    rcases q with ⟨k,e⟩ | ⟨k,c,e,z⟩
    ·refine .inl ⟨k,?_⟩
     have:y≠x:=fun e=>hj (kS hN e1 (e ▸ hi))
     simp [this,e]
    ·exact .inr ⟨k,c,e,z.sameBut hs (cne y c e)⟩
  ·obtain⟨w',z⟩:=I.cell y c e
   exact⟨w',z.sameBut hs (cne y c e)⟩
  ·obtain⟨e,n,ne,nf,d⟩:=I.pin p hp
   exact⟨(hs.2 p.1 ne).trans e,n,ne,nf,d⟩
 ·have hfn:X.fn x=true:=by
   rcases hf with z | z
   ·exact z
   ·rw [z] at hk;cases hk
  obtain⟨c,hc⟩:=I.ok.has x (.inl hk)
  obtain⟨w',z⟩:=I.cell x c hc
  refine wpAny_storeName_cell I.ok.kind hk hc z (fun h' hc' hs=>?_)
  obtain⟨oc,hoc,hocd⟩:=id z
  refine h { s with heap:=h' } ⟨I.ok,I.os,I.bare,⟨fun b o e n hb hx=>?_,fun b o e n hb hx=>?_,I.base.free,fun b o e hx=>?_,I.base.tups,I.base.frzs,I.base.tbls⟩,⟨m,hn.sameBut hs (Ne.symm (cne x c hc)),fun j y v' e1 e2 e3=>?_⟩,fun y c' e=>?_,I.free,I.freeC,fun p hp=>?_,tracked ⟨oc,hoc,I.freeC x c hc⟩ hs,by simpa using I.len⟩ ⟨c,hs,.inr hc⟩
  ·exact (hs.2 b (Nat.ne_of_lt (Nat.lt_of_lt_of_le (Heap.lt_size e) (I.ok.cab x c hfn hc)))).trans (I.base.keep b o e n hb hx)
  ·obtain⟨sl,e1⟩:=I.base.slot b o e n hb hx
   exact⟨sl,(hs.2 b (Nat.ne_of_lt (Nat.lt_of_lt_of_le (Heap.lt_size e) (I.ok.cab x c hfn hc)))).trans e1⟩
  ·obtain⟨o',e1⟩:=I.base.there b o e hx
   exact⟨o',(hs.2 b (Nat.ne_of_lt (Nat.lt_of_lt_of_le (Heap.lt_size e) (I.ok.cab x c hfn hc)))).trans e1⟩
  ·by_cases hj:j=i
   ·subst hj
    rw [hi] at e1;cases e1
    rw [List.getElem?_set_self hiσ] at e2
    cases e2
    exact⟨u,r,.inr ⟨.inl hk,c,hc,hc'⟩⟩
   ·rw [List.getElem?_set_ne (Ne.symm hj)] at e2
    obtain⟨u',r',q⟩:=hl j y v' e1 e2 e3
    refine⟨u',r',?_⟩
    rcases q with q | ⟨k,c',e,z'⟩
    ·exact .inl q
    ·refine .inr ⟨k,c',e,z'.sameBut hs ?_⟩
     rintro rfl
     exact hj (kS hN e1 (I.ok.inj _ _ _ e hc ▸ hi))
  ·by_cases hcc:c'=c
   ·subst hcc;exact⟨_,hc'⟩
   ·obtain⟨w2,z2⟩:=I.cell y c' e
    exact⟨w2,z2.sameBut hs hcc⟩
  ·obtain⟨e,n,ne,nf,d⟩:=I.pin p hp
   refine⟨(hs.2 p.1 ?_).trans e,n,ne,nf,d⟩
   intro q
   rw [q,hoc] at e
   have q':oc=p.2:=Option.some.inj e
   exact d w' (by rw [← q'];exact hocd)
theorem fD {M:Model} {A:Around} {E:cJ} {i:Nat} {x:Str} {v:V} {u:Value} {Q:Unit->Shared->Prop} (I:Inv X pins σ H s) (hN:X.N.Nodup) (hi:X.N[i]?=some x) (hx:Ao X.env.scope x) (r:bo v u)
  (h:∀ s',Inv X pins (σ.set i (some v)) H s'->Q () s') (hf:X.fn x=true∨X.env.scope.names.lookup x=some .local:=by first | exact .inl rfl | exact .inr rfl | assumption):wpAny M A (storeName X.env x u) Q E s:=
 uC I hN hi hx r (fun s' I' _=>h s' I') hf
theorem Inv.call' {s':Shared} {ch:List Addr} (I:Inv X pins σ H s) (ho:s'.os=s.os) (u:Un (lT X.stack) ch H H' s.heap s'.heap) (hok:iA X.prog X.w H' s'.heap) (hg:AllBare s'.gens)
  (hch:∀ b∈ch,(b∈X.ex∨X.s₀.heap.get? b=none)/\b≠X.env.locals/\(∀ x c,X.env.cells.lookup x=some c->c≠b)/\∀ p∈X.pn++pins,p.1≠b):Inv X pins σ H' s':=by
 obtain⟨h',g',d',t',o'⟩:=s'
 have e:o'=s.os:=ho
 subst e
 exact I.call (g':=g') (t':=t') (d':=d') u hok hg hch
end
abbrev XK:=Value->Option Addr->Hp->Prop
abbrev St:=List (Option V)
abbrev VK:=V->Hp->Prop
abbrev TE:=St->Hp->VK->Prop
abbrev TT:=St->Hp->(Bool->Hp->Prop)->Prop
abbrev TA:=St->Hp->(List V->Hp->Prop)->Prop
structure iQ where
 nx:St->Hp->Prop
 rt:VK
 bk:St->Hp->Prop:=fun _ _=>False
 ct:St->Hp->Prop:=fun _ _=>False
abbrev TS:=iQ->St->Hp->Prop
def EP (X:Cx) (pins:cf) (σ:St) (Q:VK) (u:Value) (s':Shared):Prop:=∃ v H',Inv X pins σ H' s'/\bo v u/\Q v H'
def TP (X:Cx) (pins:cf) (σ:St) (Q:Bool->Hp->Prop) (b:Bool) (s':Shared):Prop:=∃ H',Inv X pins σ H' s'/\Q b H'
def AP (X:Cx) (pins:cf) (σ:St) (Q:List V->Hp->Prop) (us:List Value) (s':Shared):Prop:=∃ vs H',Inv X pins σ H' s'/\bf vs us/\Q vs H'
def SP (X:Cx) (pins:cf) (D:iQ) (f:Flow) (s':Shared):Prop:=
 match f with
 | .next=>∃ σ' H',Inv X pins σ' H' s'/\D.nx σ' H'
 | .brk=>∃ σ' H',Inv X pins σ' H' s'/\D.bk σ' H'
 | .cont=>∃ σ' H',Inv X pins σ' H' s'/\D.ct σ' H'
 | .ret u=>∃ v σ' H',Inv X pins σ' H' s'/\bo v u/\D.rt v H'
def PE (X:Cx) (e:Expr) (t:TE):Prop:=
 ∀ (pins:cf) (s:Shared) (σ:St) (H:Hp) (Q:VK),Inv X pins σ H s->t σ H Q->wpAny (model X.prog X.w) X.A (eval e X.env) (EP X pins σ Q) X.xe s
def PT (X:Cx) (e:Expr) (t:TT):Prop:=
 ∀ (pins:cf) (s:Shared) (σ:St) (H:Hp) (Q:Bool->Hp->Prop),Inv X pins σ H s->t σ H Q->wpAny (model X.prog X.w) X.A (isTrue e X.env (eval e X.env)) (TP X pins σ Q) X.xe s
def PW (X:Cx) (e:Expr) (t:TT):Prop:=
 ∀ (whole:Sem Value) (pins:cf) (s:Shared) (σ:St) (H:Hp) (Q:Bool->Hp->Prop),Inv X pins σ H s->t σ H Q->wpAny (model X.prog X.w) X.A (isTrue e X.env whole) (TP X pins σ Q) X.xe s
theorem PW.pt {X:Cx} {e:Expr} {t:TT} (h:PW X e t):PT X e t:=h _
def PA (X:Cx) (es:List Expr) (t:TA):Prop:=
 ∀ (pos:Pos) (pins:cf) (s:Shared) (σ:St) (H:Hp) (Q:List V->Hp->Prop),Inv X pins σ H s->t σ H Q->wpAny (model X.prog X.w) X.A (spliced (backTo pos (starEach es X.env))) (AP X pins σ Q) X.xe s
def PS (X:Cx) (st:Stmt) (t:TS):Prop:=
 ∀ (pins:cf) (s:Shared) (σ:St) (H:Hp) (D:iQ),Inv X pins σ H s->t D σ H->wpAny (model X.prog X.w) X.A (exec st X.env) (SP X pins D) X.xe s
def nX (X:Cx) (st:List Stmt) (t:TS):Prop:=
 ∀ (pins:cf) (s:Shared) (σ:St) (H:Hp) (D:iQ),Inv X pins σ H s->t D σ H->wpAny (model X.prog X.w) X.A (execs st X.env) (SP X pins D) X.xe s
theorem cA {α:Type} {t:Sem α} {Q Q':α->Shared->Prop} {M:Model} {A:Around} {E:cJ} {s:Shared} (h:wpAny M A t Q E s) (hQ:∀ a s,Q a s->Q' a s):wpAny M A t Q' E s:=wpAny_mono h hQ fun _ _ x=>x
end L2
namespace L2
open PySem PySem.Spec PyProof.Rows
section
variable {X:Cx}
def Ba (i:Nat):TE:=fun σ H Q=>∃ v,σ[i]?=some (some v)/\Q v H
def tC (v:V):TE:=fun _ H Q=>Q v H
theorem BW {i:Nat} {x:Str} {pos:Pos} (hN:X.N[i]?=some x) (hv:Fu X.env.scope x) (hd:(x == ("__debug__" : Str))=false:=by decide) (hcd:(x == ("__classdict__" : Str))=false:=by decide):PE X (.Name x pos) (Ba i):=by
 intro pins s σ H Q I h
 obtain⟨v,e,h⟩:=h
 obtain⟨m,hn,hl⟩:=I.loc
 obtain⟨u,r,l⟩:=hl i x v hN e hv
 have fin:EP X pins σ Q u s:=⟨v,H,I,r,h⟩
 rcases l with ⟨hk,hm⟩ | ⟨hk,c,hc,hcell⟩
 ·exact wpAny_Name (wpAny_loadName_local I.ok.kind hk hn hm fin) hd
 ·rcases hk with hk | hk
  ·exact wpAny_Name (wpAny_loadName_cell I.ok.kind hk hc hcell fin) hd
  ·exact wpAny_Name (wpAny_loadName_free I.ok.kind hk hc hcell fin hcd) hd
theorem wR {i j pos}:PE X (.Constant (.int i) j pos) (tC (.int i)):=fun _ _ _ H _ I h=>wpAny_Constant_int ⟨.int i,H,I.tok _,⟨_,rfl⟩,h⟩
theorem En {b j pos}:PE X (.Constant (.bool b) j pos) (tC (.bl b)):=fun _ _ _ H _ I h=>Constant_bool ⟨.bl b,H,I,rfl,h⟩
theorem B3 {j pos}:PE X (.Constant .none j pos) (tC .non):=fun _ _ _ H _ I h=>Constant_none ⟨.non,H,I,rfl,h⟩
theorem BY {x j pos}:PE X (.Constant (.str x) j pos) (tC (.str x)):=fun _ _ _ H _ I h=>Calls.Constant_str ⟨.str x,H,I.tok _,⟨_,rfl⟩,h⟩
def Gl (X:Cx) (x:Str):Prop:=X.env.kindOf x=some .globalImplicit
theorem i5 {E:cJ} {pins:cf} {s:Shared} {σ:St} {H:Hp} {x:Str} {u:Value} {pos:Pos} {Q:cJ} (I:Inv X pins σ H s) (hg:Gl X x) (hm:X.mg x=some u) (h:Q u s)
  (hd:(x == ("__debug__" : Str))=false:=by decide):wpAny (model X.prog X.w) X.A (eval (.Name x pos) X.env) Q E s:=
 Calls.Name_function_global I.ok.kind hg (Calls.loadGlobal_global (by rw [I.ok.glob];exact I.mod.glob.keeps I.bk) hm h) hd
theorem gF {E:cJ} {pins:cf} {s:Shared} {σ:St} {H:Hp} {x:Str} {u:Value} {pos:Pos} {Q:cJ} (I:Inv X pins σ H s) (hg:Gl X x) (hm:X.mg x=none) (hv:bootBuiltins x=some u) (h:Q u s)
  (hn:x ≠ "__name__" := by decide) (hd:(x == ("__debug__" : Str))=false:=by decide):wpAny (model X.prog X.w) X.A (eval (.Name x pos) X.env) Q E s:=by
 obtain⟨mb,h1,h2⟩:=I.mod.blt
 exact Calls.Name_function_global I.ok.kind hg (Calls.loadGlobal_builtin (by rw [I.ok.glob];exact I.mod.glob.keeps I.bk) hm (by rw [I.ok.blt];exact h1.keeps I.bk) ((h2 x hn).trans hv) h) hd
theorem zo {x:Str} {v:V} {u:Value} {pos:Pos} (hg:Gl X x) (hm:X.mg x=some u) (r:bo v u) (hd:(x == ("__debug__" : Str))=false:=by decide):PE X (.Name x pos) (tC v):=
 fun _ _ _ H _ I h=>i5 I hg hm ⟨v,H,I,r,h⟩ hd
theorem zu {x:Str} {v:V} {u:Value} {pos:Pos} (hg:Gl X x) (hm:X.mg x=none) (hv:bootBuiltins x=some u) (r:bo v u) (hn:x ≠ "__name__" := by decide) (hd:(x == ("__debug__" : Str))=false:=by decide):PE X (.Name x pos) (tC v):=
 fun _ _ _ H _ I h=>gF I hg hm hv ⟨v,H,I,r,h⟩ hn hd
def E9 (ta tb:TE) (k:Int->Int->Hp->Prop):St->Hp->Prop:=fun σ H=>ta σ H fun x H1=>tb σ H1 fun y H2=>∃ i j,x=.int i/\y=.int j/\k i j H2
def Hj (ta tb:TE):TE:=fun σ H Q=>E9 ta tb (fun i j H2=>Q (.int (i+j)) H2) σ H
def G6 (ta tb:TE):TE:=fun σ H Q=>E9 ta tb (fun i j H2=>Q (.int (i - j)) H2) σ H
def Hc (ta tb:TE):TE:=fun σ H Q=>E9 ta tb (fun i j H2=>(-(2 ^ 64) < i/\i < 2 ^ 64)/\Q (.int (i * j)) H2) σ H
variable {a b:Expr} {ta tb:TE} {pos:Pos}
def PC (X:Cx) (op:CmpOp) (a b:Expr) (t:TE):Prop:=
 ∀ (pins:cf) (s:Shared) (σ:St) (H:Hp) (Q:VK),Inv X pins σ H s->t σ H Q→
  wpAny (model X.prog X.w) X.A (eval a X.env) (fun v s₁=>wpAny (model X.prog X.w) X.A (eval b X.env) (fun u s₂=>wpAny (model X.prog X.w) X.A (compareOp op v u) (EP X pins σ Q) X.xe s₂) X.xe s₁) X.xe s
def uB (p:Int->Int->Bool) (ta tb:TE):TE:=fun σ H Q=>E9 ta tb (fun i j H2=>Q (.bl (p i j)) H2) σ H
abbrev Iv:TE->TE->TE:=uB fun i j=>decide (i < j)
abbrev Iw:TE->TE->TE:=uB fun i j=>decide (i≤j)
abbrev Iy:TE->TE->TE:=uB fun i j=>decide (j < i)
abbrev Iz:TE->TE->TE:=uB fun i j=>decide (j≤i)
abbrev Hf:TE->TE->TE:=uB fun i j=>decide (i=j)
abbrev Hb:TE->TE->TE:=uB fun i j=>!decide (i=j)
def Hd (ta:TE):TE:=fun σ H Q=>ta σ H fun x H1=>Q (.bl (decide (x=.non))) H1
def Gx (ta:TE):TE:=fun σ H Q=>ta σ H fun x H1=>Q (.bl (!decide (x=.non))) H1
def tB (t:TE):TT:=fun σ H Q=>t σ H fun x H1=>∃ c,x=.bl c/\Q c H1
theorem B5 {op:CmpOp} {t:TE} (h:PC X op a b t) (h1:behindInMarks op b=false:=by first | exact nobehind _ (by decide) (by decide) | rfl):PE X (.Compare a [op] [b] pos) t:=fun pins s σ H Q I hw=>wpAny_Compare1 (h pins s σ H Q I hw) h1
theorem BK {e:Expr} {t:TE} (h:PE X e t) (he:∀ whole,isTrue e X.env whole=(do let v ← whole;standAt e.pos;holding [v] (truthy v)):=by intro _;rfl):PT X e (tB t):=by
 intro pins s σ H Q I hw
 refine isTrue_plain (cA (h pins s σ H _ I hw) fun v s1 ⟨x,H1,I1,r1,q1⟩=>?_) (he _)
 obtain⟨d,rfl,q⟩:=q1
 cases r1
 exact wpAny_truthy_bool ⟨H1,I1,q⟩
variable {tA tB':TT} {cS:List Expr}
def DM (t u:TT):TT:=fun σ H Q=>t σ H fun c H1=>if c=true then u σ H1 Q else Q false H1
def Gw (t u:TT):TT:=fun σ H Q=>t σ H fun c H1=>if c=true then Q true H1 else u σ H1 Q
def DG (t:TT):TT:=fun σ H Q=>t σ H fun c H1=>Q (!c) H1
theorem yW (ha:PT X a tA):PW X (.BoolOp .And [a] pos) tA:=by
 intro wh pins s σ H Q I h
 refine isTrue_and (cA (ha pins s σ H Q I h) fun c s1 e=>?_)
 cases c with
 | true=>exact isTrue_and_nil e
 | false=>exact e
theorem BH (ha:PT X a tA):PW X (.BoolOp .Or [a] pos) tA:=by
 intro wh pins s σ H Q I h
 refine isTrue_or (cA (ha pins s σ H Q I h) fun c s1 e=>?_)
 cases c with
 | false=>exact isTrue_or_nil e
 | true=>exact e
theorem BI (ha:PT X a tA) (hb:PW X (.BoolOp .And (b :: cS) pos) tB'):PW X (.BoolOp .And (a :: b :: cS) pos) (DM tA tB'):=by
 intro wh pins s σ H Q I h
 refine isTrue_and (cA (ha pins s σ H _ I h) fun c s1 ⟨H1,I1,q1⟩=>?_)
 cases c with
 | true=>exact hb wh pins s1 σ H1 Q I1 q1
 | false=>exact⟨H1,I1,q1⟩
theorem Ef (ha:PT X a tA) (hb:PW X (.BoolOp .Or (b :: cS) pos) tB'):PW X (.BoolOp .Or (a :: b :: cS) pos) (Gw tA tB'):=by
 intro wh pins s σ H Q I h
 refine isTrue_or (cA (ha pins s σ H _ I h) fun c s1 ⟨H1,I1,q1⟩=>?_)
 cases c with
 | true=>exact⟨H1,I1,q1⟩
 | false=>exact hb wh pins s1 σ H1 Q I1 q1
theorem BL (ha:PT X a tA):PT X (.UnaryOp .Not a pos) (DG tA):=by
 intro pins s σ H Q I h
 exact isTrue_not (ha pins s σ H (fun c H1=>Q (!c) H1) I h)
def AA (ta tb:TE):TE:=fun σ H Q=>ta σ H fun x H1=>∃ c,x=.bl c/\if c=true then tb σ H1 Q else Q (.bl false) H1
def G9 (ta tb:TE):TE:=fun σ H Q=>ta σ H fun x H1=>∃ c,x=.bl c/\if c=true then Q (.bl true) H1 else tb σ H1 Q
def Au (ta:TE):TE:=fun σ H Q=>ta σ H fun x H1=>∃ c,x=.bl c/\Q (.bl (!c)) H1
theorem B1 {op} {t:TE} (h:PE X a t):PE X (.BoolOp op [a] pos) t:=fun pins s σ H Q I hw=>BoolOp_one (h pins s σ H Q I hw)
theorem B6 (ha:PE X a ta) (hb:PE X (.BoolOp .And (b :: cS) pos) tb):PE X (.BoolOp .And (a :: b :: cS) pos) (AA ta tb):=by
 intro pins s σ H Q I h
 refine BoolOp_and (cA (ha pins s σ H _ I h) fun v s1 ⟨x,H1,I1,r1,q1⟩=>?_)
 obtain⟨c,rfl,q1⟩:=q1
 cases r1
 refine wpAny_truthy_bool ?_
 cases c with
 | true=>exact hb pins s1 σ H1 Q I1 q1
 | false=>exact⟨.bl false,H1,I1,rfl,q1⟩
theorem B2 (ha:PE X a ta):PE X (.UnaryOp .Not a pos) (Au ta):=by
 intro pins s σ H Q I h
 refine UnaryOp_ (cA (ha pins s σ H _ I h) fun v s1 ⟨x,H1,I1,r1,q1⟩=>?_)
 obtain⟨c,rfl,q1⟩:=q1
 cases r1
 exact not_of (wpAny_truthy_bool ⟨.bl (!c),H1,I1,rfl,q1⟩)
def Ix (t:TT) (ta tb:TE):TE:=fun σ H Q=>t σ H fun c H1=>if c=true then ta σ H1 Q else tb σ H1 Q
end
end L2
namespace L2
open PySem PySem.Spec PyProof.Rows
def bj (K:Fg) (H:Hp) (a:Addr) (xs:List V):Prop:=
 Rd H a (.lst xs)∨
  ∃ (o:Obj) (its:Array Value) (n:Nat),K.lookup a=some o/\o.cls=.type "list" /\ o.dict=none/\o.data=.seq its n/\its.size≤sizeLine/\bf xs its.toList
def aZ (K:Fg) (H:Hp) (a:Addr) (xs:List V):Prop:=
 Rd H a (.tup xs)∨
  ∃ (o:Obj) (its:Array Value) (n:Nat),K.lookup a=some o/\o.cls=.type "tuple" /\ o.data=.seq its n/\its.size≤sizeLine/\bf xs its.toList
def Ga:Value->Option V
 | .none=>some .non
 | .bool b=>some (.bl b)
 | .int i _=>some (.int i)
 | .str x _=>some (.str x)
 | .bytes b _=>some (.byt b)
 | .float b _=>some (.flt b)
 | .ref a=>some (.ref a)
 | .type n=>some (.ty n)
 | _=>none
theorem bo.abs {x:V} {u:Value} (r:bo x u):Ga u=some x:=by
 cases x with
 | non=>cases r;rfl
 | bl _=>cases r;rfl
 | int _=>obtain⟨t,rfl⟩:=r;rfl
 | str _=>obtain⟨t,rfl⟩:=r;rfl
 | byt _=>obtain⟨t,rfl⟩:=r;rfl
 | flt _=>obtain⟨t,rfl⟩:=r;rfl
 | ref _=>cases r;rfl
 | ty _=>cases r;rfl
theorem bo.inj {x y:V} {u:Value} (r:bo x u) (q:bo y u):x=y:=Option.some.inj (r.abs.symm.trans q.abs)
theorem bf.inj:∀ {xs ys:List V} {us:List Value},bf xs us->bf ys us->xs=ys
 | _,_,_,.nil,.nil=>rfl
 | _,_,_,.cons r t,.cons r' t'=>by rw [r.inj r',bf.inj t t']
section
variable {X:Cx} {pins:cf} {σ:St} {H:Hp} {s:Shared} {a:Addr} {xs ys:List V}
theorem bj.of {K:Fg} (h:H a=some (.lst xs)):bj K H a xs:=.inl (.inl h)
theorem aZ.of {K:Fg} (h:H a=some (.tup xs)):aZ K H a xs:=.inl (.inl h)
theorem Inv.list (I:Inv X pins σ H s) (h:bj X.K H a xs):∃ its:List Value,bf xs its/\PlainL s.heap a its.toArray/\xs.length≤sizeLine:=by
 rcases h with h | ⟨o,its,n,hk,hc,hd,hs,hz,r⟩
 ·obtain⟨z,its,n,r,e⟩:=h.ok I.hok
  exact⟨its,r,⟨_,n,e,rfl,rfl,rfl⟩,z⟩
 ·refine⟨its.toList,r,⟨o,n,I.kIn a o hk,hc,hd,by simpa using hs⟩,?_⟩
  have e:=r.length
  simp only [Array.length_toList] at e
  omega
theorem Inv.tuple (I:Inv X pins σ H s) (h:aZ X.K H a xs):∃ its:List Value,bf xs its/\IsTup s.heap a its.toArray/\xs.length≤sizeLine:=by
 rcases h with h | ⟨o,its,n,hk,hc,hs,hz,r⟩
 ·obtain⟨z,its,r,p⟩:=h.ok I.hok
  exact⟨its,r,p,z⟩
 ·refine⟨its.toList,r,⟨o,I.kIn a o hk,hc,n,by simpa using hs⟩,?_⟩
  have e:=r.length
  simp only [Array.length_toList] at e
  omega
theorem Inv.list_inj (I:Inv X pins σ H s) (h:bj X.K H a xs) (h':bj X.K H a ys):xs=ys:=by
 obtain⟨its,r,⟨o,n,e,_,_,d⟩,_⟩:=I.list h
 obtain⟨its',r',⟨o',n',e',_,_,d'⟩,_⟩:=I.list h'
 rw [e] at e';cases e'
 rw [d] at d'
 injection d' with d1 _
 have:its=its':=by simpa using congrArg Array.toList d1
 subst this
 exact r.inj r'
theorem Inv.tuple_inj (I:Inv X pins σ H s) (h:aZ X.K H a xs) (h':aZ X.K H a ys):xs=ys:=by
 obtain⟨its,r,⟨o,e,_,n,d⟩,_⟩:=I.tuple h
 obtain⟨its',r',⟨o',e',_,n',d'⟩,_⟩:=I.tuple h'
 rw [e] at e';cases e'
 rw [d] at d'
 injection d' with d1 _
 have:its=its':=by simpa using congrArg Array.toList d1
 subst this
 exact r.inj r'
end
abbrev Cx.wish (X:Cx) (E:cJ):Cx:={ X with xe:=E }
abbrev Cx.nox (X:Cx):Cx:=X.wish fun _ _=>False
theorem Cx.Ok.wish {X:Cx} (ok:X.Ok) (E:cJ):(X.wish E).Ok:=
 ⟨ok.mod,ok.kind,ok.glob,ok.blt,ok.above,ok.inj,ok.has,ok.cab,ok.hd,ok.frames,ok.stk,ok.exf,ok.bs,ok.bsz,ok.noex,ok.exfs,ok.funs,ok.frf⟩
theorem Cx.Ok.unwish {X:Cx} {E:cJ} (ok:(X.wish E).Ok):X.Ok:=
 ⟨ok.mod,ok.kind,ok.glob,ok.blt,ok.above,ok.inj,ok.has,ok.cab,ok.hd,ok.frames,ok.stk,ok.exf,ok.bs,ok.bsz,ok.noex,ok.exfs,ok.funs,ok.frf⟩
section
variable {X:Cx} {pins:cf} {σ:St} {H:Hp} {s:Shared} {E:cJ}
theorem Inv.wish (I:Inv X pins σ H s) (E:cJ):Inv (X.wish E) pins σ H s:=⟨I.ok.wish E,I.os,I.bare,I.base,I.loc,I.cell,I.free,I.freeC,I.pin,I.hok,I.len⟩
theorem Inv.unwish (I:Inv (X.wish E) pins σ H s):Inv X pins σ H s:=⟨I.ok.unwish,I.os,I.bare,I.base,I.loc,I.cell,I.free,I.freeC,I.pin,I.hok,I.len⟩
theorem SP.unwish {D:iQ} {f:Flow} {s':Shared} (h:SP (X.wish E) pins D f s'):SP X pins D f s':=by
 cases f with
 | next=>obtain⟨σ',H',I,q⟩:=h;exact⟨σ',H',I.unwish,q⟩
 | brk=>obtain⟨σ',H',I,q⟩:=h;exact⟨σ',H',I.unwish,q⟩
 | cont=>obtain⟨σ',H',I,q⟩:=h;exact⟨σ',H',I.unwish,q⟩
 | ret u=>obtain⟨v,σ',H',I,r,q⟩:=h;exact⟨v,σ',H',I.unwish,r,q⟩
theorem nX.nox {st:List Stmt} {t:TS} (h:nX X.nox st t):nX X st t:=fun pins s σ H D I hw=>
 wpAny_mono (h pins s σ H D (I.wish _) hw) (fun _ _ q=>q.unwish) fun _ _ z=>False.elim z
end
section
variable {X:Cx} {st:Stmt} {cS:List Stmt} {t u:TS} {e:Expr} {te:TE} {pos:Pos}
def Av:TS:=fun D σ H=>D.nx σ H
def DC (t u:TS):TS:=fun D σ H=>t { D with nx:=u D } σ H
theorem y9:nX X [] Av:=fun _ _ σ H _ I h=>wpAny_execs_nil ⟨σ,H,I,h⟩
theorem wC (h1:PS X st t) (h2:nX X cS u):nX X (st :: cS) (DC t u):=by
 intro pins s σ H D I h
 refine wpAny_execs_cons (cA (h1 pins s σ H { D with nx:=u D } I h) fun f s1 q=>?_)
 cases f with
 | next=>
  obtain⟨σ',H',I',q⟩:=q
  exact h2 pins s1 σ' H' D I' q
 | ret v=>exact q
 | brk=>exact q
 | cont=>exact q
theorem y8 (h1:PS X st t):nX X [st] t:=by
 intro pins s σ H D I h
 refine wpAny_execs_cons (cA (h1 pins s σ H D I h) fun f s1 q=>?_)
 cases f with
 | next=>exact wpAny_execs_nil q
 | ret v=>exact q
 | brk=>exact q
 | cont=>exact q
def FL:TS:=fun D σ H=>D.bk σ H
def GC:TS:=fun D σ H=>D.ct σ H
theorem Inv.quiet {pins:cf} {σ:St} {H:Hp} {s:Shared} (I:Inv X pins σ H s):interactive X.env=false:=by simp [interactive,I.ok.kind]
def Ax (te:TE):TS:=fun D σ H=>te σ H fun _ H1=>D.nx σ H1
theorem zc (he:PE X e te) (hs:swapsWith e none pos.line X.env=pure false:=by rfl):PS X (.Expr e pos) (Ax te):=by
 intro pins s σ H D I h
 exact wpAny_Expr_any (cA (he pins s σ H _ I h) fun v s1 ⟨x,H1,I1,r1,q1⟩=>⟨σ,H1,I1,q1⟩) I.quiet hs
def DE (te:TE):TS:=fun D σ H=>te σ H D.rt
theorem BN (he:PE X e te):PS X (.Return (some e) pos) (DE te):=by
 intro pins s σ H D I h
 exact wpAny_Return_some (cA (he pins s σ H _ I h) fun v s1 ⟨x,H1,I1,r1,q1⟩=>⟨x,σ,H1,I1,r1,q1⟩)
def Gv:TS:=fun D _ H=>D.rt .non H
def DJ (c:TT) (t u:TS):TS:=fun D σ H=>c σ H fun b H1=>if b=true then t D σ H1 else u D σ H1
theorem Eg {c:Expr} {a b:List Stmt} {tc:TT} (hc:PT X c tc) (ha:nX X a t) (hb:nX X b u):PS X (.If c a b pos) (DJ tc t u):=by
 intro pins s σ H D I h
 refine wpAny_If (cA (hc pins s σ H _ I h) fun d s1 ⟨H1,I1,q1⟩=>?_)
 cases d with
 | true=>exact ha pins s1 σ H1 D I1 q1
 | false=>exact hb pins s1 σ H1 D I1 q1
def vT:TS:=fun _ _ _=>False
theorem wF:PS X st vT:=fun _ _ _ _ _ _ h=>h.elim
end
abbrev TG:=V->St->Hp->(St->Hp->Prop)->Prop
abbrev yt:=List V->St->Hp->(St->Hp->Prop)->Prop
def PG (X:Cx) (target:Expr) (t:TG):Prop:=
 ∀ (pins:cf) (s:Shared) (σ:St) (H:Hp) (v:V) (u:Value) (Q:St->Hp->Prop),Inv X pins σ H s->bo v u->t v σ H Q→
  wpAny (model X.prog X.w) X.A (assign target X.env u) (fun _ s'=>∃ σ' H',Inv X pins σ' H' s'/\Q σ' H') X.xe s
def EY (X:Cx) (ts:List Expr) (t:yt):Prop:=
 ∀ (pins:cf) (s:Shared) (σ:St) (H:Hp) (vs:List V) (us:List Value) (Q:St->Hp->Prop),Inv X pins σ H s->bf vs us->t vs σ H Q→
  wpAny (model X.prog X.w) X.A (assignInOrder ((assignEach ts X.env).map (·.2)) us) (fun _ s'=>∃ σ' H',Inv X pins σ' H' s'/\Q σ' H') X.xe s
abbrev yr:=V->V->V->Hp->(Hp->Prop)->Prop
def Dk (X:Cx) (t:yr):Prop:=
 ∀ (pins:cf) (s:Shared) (σ:St) (H:Hp) (o i v:V) (ov iv u:Value) (Q:Hp->Prop),Inv X pins σ H s->bo o ov->bo i iv->bo v u->t o i v H Q→
  wpAny (model X.prog X.w) X.A (setItem ov iv u) (fun _ s'=>∃ H',Inv X pins σ H' s'/\Q H') X.xe s
abbrev Fw:=V->V->Hp->VK->Prop
def II (X:Cx) (op:Operator) (t:Fw):Prop:=
 ∀ (pins:cf) (s:Shared) (σ:St) (H:Hp) (x y:V) (v u:Value) (Q:VK),Inv X pins σ H s->bo x v->bo y u->t x y H Q→
  wpAny (model X.prog X.w) X.A (inplaceOp op v u) (EP X pins σ Q) X.xe s
section
variable {X:Cx} {pos:Pos}
def i9 (i:Nat):TG:=fun v σ H Q=>Q (σ.set i (some v)) H
theorem zk {i:Nat} {x:Str} (hN:X.N.Nodup) (hi:X.N[i]?=some x) (hx:Ao X.env.scope x) (hf:X.fn x=true∨X.env.scope.names.lookup x=some .local:=by first | exact .inl rfl | exact .inr rfl | assumption):PG X (.Name x pos) (i9 i):=by
 intro pins s σ H v u Q I r h
 exact wpAny_assign_Name (fD I hN hi hx r (fun s' I'=>⟨_,H,I',h⟩) hf)
def EO:yt:=fun vs σ H Q=>vs=[]/\Q σ H
def AU (t:TG) (u:yt):yt:=fun vs σ H Q=>∃ v r,vs=v :: r/\t v σ H fun σ' H'=>u r σ' H' Q
theorem zj:EY X [] EO:=by
 intro pins s σ H vs us Q I r h
 obtain⟨e,h⟩:=h
 subst e
 cases r
 exact assignInOrder_nil ⟨σ,H,I,h⟩
theorem wO {e:Expr} {es:List Expr} {t:TG} {u:yt} (h1:PG X e t) (h2:EY X es u)
  (hs:(assignEach (e :: es) X.env).map (·.2)=assign e X.env :: (assignEach es X.env).map (·.2):=by rfl):EY X (e :: es) (AU t u):=by
 intro pins s σ H vs us Q I r h
 obtain⟨v,vr,e1,h⟩:=h
 subst e1
 cases r with
 | cons r rr=>
  rw [hs]
  refine assignInOrder_cons (cA (h1 pins s σ H _ _ _ I r h) fun _ s1 ⟨σ1,H1,I1,q1⟩=>?_)
  exact h2 pins s1 σ1 H1 _ _ Q I1 rr q1
def EM (K:Fg) (n:Nat) (t:yt):TG:=fun v σ H Q=>∃ a xs,v=.ref a/\aZ K H a xs/\xs.length=n/\t xs σ H Q
theorem BU {es:List Expr} {k:Nat} {t:yt} {n:Nat} (hc:X.calm=true) (h:EY X es t)
  (hn:(assignEach es X.env).length=n:=by rfl) (hst:(assignEach es X.env).findIdx? (·.1)=none:=by rfl):PG X (.Tuple es k pos) (EM X.K n t):=by
 intro pins s σ H v u Q I r hw
 obtain⟨a,xs,e1,hq,hl,hw⟩:=hw
 subst e1
 cases r
 obtain⟨its,rv,ht,hz⟩:=I.tuple hq
 refine assign_Tuple_tuple (I.ok.hd hc) ht (by simp [hn,← hl,rv.length]) hst fun h' hx=>?_
 have I1:Inv X pins σ H { s with heap:=h' }:=I.kept (t':=s.toks) fun b o e=>hx b o (Nat.ne_of_lt (Heap.lt_size e)) e
 exact h pins _ σ H xs _ Q I1 (by simpa using rv) hw
def EN (to ti:TE) (t:yr):TG:=fun v σ H Q=>to σ H fun o H1=>ti σ H1 fun i H2=>t o i v H2 fun H3=>Q σ H3
theorem BV {o i:Expr} {to ti:TE} {t:yr} (ho:PE X o to) (hi:PE X i ti) (hs:Dk X t)
  (ha:∀ v,assign (.Subscript o i pos) X.env v=(do
   let ov ← holding [v] (eval o X.env)
   let iv ← holding [v,ov] (eval i X.env)
   standAt pos
   holding [v,ov,iv] (setItem ov iv v)
   release [v,ov,iv] []):=by intro _;rfl):PG X (.Subscript o i pos) (EN to ti t):=by
 intro pins s σ H v u Q I r h
 rw [ha]
 refine wpAny_bind (wpAny_holding (cA (ho pins s σ H _ I h) fun ov s1 ⟨x,H1,I1,r1,q1⟩=>?_))
 refine wpAny_bind (wpAny_holding (cA (hi pins s1 σ H1 _ I1 q1) fun iv s2 ⟨y,H2,I2,r2,q2⟩=>?_))
 refine wpAny_bind (wpAny_standAt (wpAny_bind (wpAny_holding (cA (hs pins s2 σ H2 x y v ov iv u _ I2 r1 r2 r q2) fun _ s3 ⟨H3,I3,q3⟩=>?_))))
 exact wpAny_release ⟨σ,H3,I3,q3⟩
def oi (te:TE) (g:TG):TS:=fun D σ H=>te σ H fun x H1=>g x σ H1 D.nx
theorem BQ {tg e:Expr} {te:TE} {g:TG} (he:PE X e te) (hg:PG X tg g) (hs:swapsWithSole [tg] e pos.line X.env=pure false:=by rfl) (hw:swappedStores [tg] e X.env=pure none:=by rfl)
  (h1:(assignEach [tg] X.env).map (·.2)=[assign tg X.env]:=by rfl):PS X (.Assign [tg] e pos) (oi te g):=by
 intro pins s σ H D I h
 refine wpAny_Assign_stores (cA (he pins s σ H _ I h) fun v s1 ⟨x,H1,I1,r1,q1⟩=>?_) hs hw
 rw [h1]
 exact cA (hg pins s1 σ H1 x v _ I1 r1 q1) fun _ s2 q=>q
theorem BM {i:Nat} {x:Str} {e:Expr} {te:TE} {pos':Pos} (hN:X.N.Nodup) (hi:X.N[i]?=some x) (hx:Ao X.env.scope x) (he:PE X e te) (hs:swapsWith e (some (.Name x pos')) pos.line X.env=pure false:=by rfl) (hf:X.fn x=true∨X.env.scope.names.lookup x=some .local:=by first | exact .inl rfl | exact .inr rfl | assumption) :
  PS X (.Assign [.Name x pos'] e pos) (oi te (i9 i)):=by
 intro pins s σ H D I h
 refine wpAny_Assign_Name (cA (he pins s σ H _ I h) fun v s1 ⟨y,H1,I1,r1,q1⟩=>?_) hs
 exact fD I1 hN hi hx r1 (fun s2 I2=>⟨_,H1,I2,q1⟩) hf
def DF (i j:Nat) (ta:TA):TS:=fun D σ H=>ta σ H fun vs H1=>∃ v w,vs=[v,w]/\D.nx ((σ.set i (some v)).set j (some w)) H1
theorem BO {i j:Nat} {x y:Str} {a b:Expr} {ta:TA} {px py pt:Pos} {kt k2 pt2} (hc:X.calm=true) (hN:X.N.Nodup) (hi:X.N[i]?=some x) (hj:X.N[j]?=some y) (hij:i≠j)
  (hx:X.env.scope.names.lookup x=some .local) (hy:X.env.scope.names.lookup y=some .local) (ha:PA X [a,b] ta)
  (hw:swappedStores [.Tuple [.Name x px,.Name y py] kt pt] (.Tuple [a,b] k2 pt2) X.env=pure (some [x,y]))
  (hs:swapsWithSole [.Tuple [.Name x px,.Name y py] kt pt] (.Tuple [a,b] k2 pt2) pos.line X.env=pure false:=by rfl) :
  PS X (.Assign [.Tuple [.Name x px,.Name y py] kt pt] (.Tuple [a,b] k2 pt2) pos) (DF i j ta):=by
 intro pins s σ H D I h
 rw [exec_Assign_arm]
 refine wpAny_bind (wpAny_standAt ?_)
 rw [hs]
 refine wpAny_bind (wpAny_pure ?_)
 rw [if_neg (by decide)]
 refine wpAny_bind (Tuple_ (cA (ha _ pins s σ H _ I h) fun us s1 ⟨vs,H1,I1,r1,q1⟩=>?_))
 obtain⟨v,w,e1,q1⟩:=q1
 subst e1
 obtain⟨u1,u2,rfl,rv,rw'⟩:∃ u1 u2,us=[u1,u2]/\bo v u1/\bo w u2:=by
  cases r1 with
  | cons p q=>
   cases q with
   | cons p' q'=>
    cases q'
    exact⟨_,_,rfl,p,p'⟩
 refine wpAny_newObj_type ?_ dE
 have I2:Inv X pins σ H1 { s1 with heap:=s1.heap.push { cls:=.type "tuple", data:=.seq [u1,u2].toArray } }:=I1.kept (t':=s1.toks) fun b o e=>Heap.get?_push_of_some _ e
 rw [hw]
 refine wpAny_bind (wpAny_pure ?_)
 show wpAny (model X.prog X.w) X.A (do rule "assign.swapped-stores";let items ← unpackItems (.ref s1.heap.objs.size) 2 none;assignInOrder [fun v=>bindName X.env y v,fun v=>bindName X.env x v] items.reverse;pure Flow.next) _ _ _
 refine wpAny_bind (wpAny_rule (wpAny_bind (unpackItems_tuple (items:=#[u1,u2]) (I.ok.hd hc) (IsTup.new s1.heap _) fun h' hx'=>?_)))
 have I3:=I2.kept (h':=h') (t':=s1.toks) fun b o e=>hx' b o (Nat.ne_of_lt (Heap.lt_size e)) e
 show wpAny _ _ (assignInOrder [fun v=>bindName X.env y v,fun v=>bindName X.env x v] [u2,u1] >>= fun _=>pure Flow.next) _ _ _
 refine wpAny_bind (assignInOrder_cons (wpAny_bindName (fD I3 hN hj (.inl hy) rw' (fun s2 I4=>?_) (.inr hy))))
 refine assignInOrder_cons (wpAny_bindName (fD I4 hN hi (.inl hx) rv (fun s3 I5=>assignInOrder_nil (wpAny_pure ?_)) (.inr hx)))
 rw [List.set_comm _ _ (Ne.symm hij)] at I5
 exact⟨_,H1,I5,q1⟩
def Hi (i:Nat) (te:TE) (ti:Fw):TS:=fun D σ H=>∃ x,σ[i]?=some (some x)/\te σ H fun y H1=>ti x y H1 fun z H2=>D.nx (σ.set i (some z)) H2
def GE (to ti te:TE) (tget:V->V->Hp->VK->Prop) (tip:Fw) (tset:yr):TS:=fun D σ H=>to σ H fun o H1=>ti σ H1 fun i H2=>tget o i H2 fun x H3=>te σ H3 fun y H4=>tip x y H4 fun z H5=>tset o i z H5 fun H6=>D.nx σ H6
def Ie (X:Cx) (t:V->V->Hp->VK->Prop):Prop:=
 ∀ (pins:cf) (s:Shared) (σ:St) (H:Hp) (o i:V) (ov iv:Value) (Q:VK),Inv X pins σ H s->bo o ov->bo i iv->t o i H Q→
  wpAny (model X.prog X.w) X.A (getItem ov iv) (EP X pins σ Q) X.xe s
def IE (f:Int->Int->Int):Fw:=fun x y H Q=>∃ i j,x=.int i/\y=.int j/\Q (.int (f i j)) H
end
section
variable {X:Cx} {pos:Pos}
def vR (c:TT) (tb:TS):TS:=fun D σ H=>∃ W:Nat->St->Hp->Prop,(∃ m,W m σ H)/\∀ m σ H,W m σ H→
 c σ H fun b H1=>if b=true then ∃ N:St->Hp->Prop,(∀ σ' H',N σ' H'->∃ m',m' < m/\W m' σ' H')/\tb { D with nx:=N,ct:=N,bk:=D.nx } σ H1 else D.nx σ H1
theorem wD {c:Expr} {body:List Stmt} {tc:TT} {tb:TS} (hp:PassesOwn (model X.prog X.w) X.A X.env X.xe) (hc:PT X c tc) (hb:nX X body tb):PS X (.While c body [] pos) (vR tc tb):=by
 intro pins s σ H D I h
 obtain⟨W,⟨m0,w0⟩,turn⟩:=h
 refine wpAny_While (codeAny_whileLoop (fun n s'=>∃ σ' H',Inv X pins σ' H' s'/\W n σ' H') ?_ m0 ⟨σ,H,I,w0⟩)
 rintro n s1 ⟨σ1,H1,I1,w1⟩
 refine wpAny_passesOwn hp (cA (hc pins s1 σ1 H1 _ I1 (turn n σ1 H1 w1)) fun b s2 ⟨H2,I2,q2⟩=>?_)
 cases b with
 | true=>
  obtain⟨N,hN,q2⟩:=q2
  rw [if_pos rfl]
  refine wpAny_passesOwn hp (cA (hb pins s2 σ1 H2 _ I2 q2) fun f s3 q3=>?_)
  cases f with
  | next=>
   obtain⟨σ3,H3,I3,n3⟩:=q3
   obtain⟨m',hm,w3⟩:=hN σ3 H3 n3
   exact⟨m',hm,σ3,H3,I3,w3⟩
  | cont=>
   obtain⟨σ3,H3,I3,n3⟩:=q3
   obtain⟨m',hm,w3⟩:=hN σ3 H3 n3
   exact⟨m',hm,σ3,H3,I3,w3⟩
  | brk=>exact q3
  | ret v=>exact q3
 | false=>
  rw [if_neg Bool.false_ne_true]
  exact wpAny_execs_nil ⟨σ1,H2,I2,q2⟩
end
structure It where
 go:Nat->Hp->Prop
 yld:Nat->Hp->V->Hp->Prop
 stop:Nat->Hp->Prop
def jh (X:Cx) (pins:cf) (H:Hp) (b:Addr):Prop:=
 H b=none/\b≠X.env.locals/\b∉X.fs/\(b∈X.ex∨X.s₀.heap.get? b=none)/\(∀ x c,X.env.cells.lookup x=some c->c≠b)/\∀ p∈X.pn++pins,p.1≠b
theorem Inv.fpOk {X:Cx} {pins:cf} {σ:St} {H H':Hp} {s:Shared} {b:Addr} (I:Inv X pins σ H s) (hb:s.heap.objs.size≤b) (hn:H' b=none):jh X pins H' b:=by
 refine⟨hn,Nat.ne_of_gt (Nat.lt_of_lt_of_le I.lt hb),I.nofs hb,.inr (Heap.get?_none_of_le (Nat.le_trans I.sz hb)),fun x c e z=>?_,fun p hp z=>?_⟩
 ·obtain⟨v,q⟩:=I.cell x c e
  exact absurd (Nat.lt_of_lt_of_le q.lt (by rw [z];exact hb)) (Nat.lt_irrefl _)
 ·exact absurd (Nat.lt_of_lt_of_le (Heap.lt_size (I.pin p hp).1) (by rw [z];exact hb)) (Nat.lt_irrefl _)
structure sR (P:Program) (w:World) (K:Fg) (tg:Expr) (J:It) (fp:List Addr) (it:Addr) (tn:Nat->Heap->Prop):Prop where
 mem:it∈fp
 obj:∀ i h,tn i h->∀ b∈fp,∃ o,h.get? b=some o/\∀ v,o.data≠.cell v
 keep:∀ i h h',tn i h->(∀ b∈fp,∀ o,h.get? b=some o->h'.get? b=some o)->tn i h'
 item:∀ (X:Cx),X.prog=P->X.w=w->X.K=K->X.calm=true->∀ (i:Nat) (pins:cf) (s:Shared) (σ:St) (H:Hp) (E:cJ),Inv X pins σ H s->(∀ b∈fp,jh X pins H b)->tn i s.heap->J.go i H→
  wpAny (model P w) X.A (pyNext (.ref it)) (fun r s1=>∃ u,r=some u∧
   wpAny (model P w) X.A (letOwnedTupleGo tg (.ref it) u) (fun _ s2=>∃ x H',Inv X pins σ H' s2/\bo x u/\J.yld i H x H'/\tn (i+1) s2.heap/\∀ b∈fp,H' b=none) E s1) E s
 done:∀ (X:Cx),X.prog=P->X.w=w->X.K=K->X.calm=true->∀ (i:Nat) (pins:cf) (s:Shared) (σ:St) (H:Hp) (E:cJ),Inv X pins σ H s->(∀ b∈fp,jh X pins H b)->tn i s.heap->J.stop i H→
  wpAny (model P w) X.A (pyNext (.ref it)) (fun r s1=>r=none/\Inv X pins σ H s1) E s
 self:∀ (A:Around) (i:Nat) (s:Shared) (Q:cJ) (E:cJ),tn i s.heap->Q (.ref it) s->wpAny (model P w) A (pyIter (.ref it)) Q E s
abbrev TI:=St->Hp->(It->Hp->Prop)->Prop
def GW (X:Cx) (pins:cf) (σ:St) (tg:Expr) (R:It->Hp->Prop) (itv:Value) (s2:Shared):Prop:=
 ∃ (it:Addr) (fp:List Addr) (tn:Nat->Heap->Prop) (J:It) (H':Hp),itv=.ref it/\Inv X pins σ H' s2/\sR X.prog X.w X.K tg J fp it tn/\tn 0 s2.heap/\(∀ b∈fp,jh X pins H' b)/\R J H'
def PI (X:Cx) (tg iter:Expr) (wi:TI):Prop:=
 ∀ (pins:cf) (s:Shared) (σ:St) (H:Hp) (R:It->Hp->Prop),Inv X pins σ H s->wi σ H R→
  wpAny (model X.prog X.w) X.A (eval iter X.env) (fun v s1=>wpAny (model X.prog X.w) X.A (pyIter v) (GW X pins σ tg R) X.xe s1) X.xe s
theorem xP {M:Model} {A:Around} {E:cJ} {s:Shared} {tg:Expr} {it:Addr} {u:Value} {o:Obj} {n:String} {vs:Array Value} {Q:Unit->Shared->Prop} (ho:s.heap.get? it=some o) (hc:o.cls=.type n) (hd:o.data=.fields vs)
  (hn:["enumerate", "zip", "dict_itemiterator", "dict_reverseitemiterator", "odict_iterator", "itertools.zip_longest", "itertools.pairwise"].contains n=false) (hQ:Q () s):wpAny M A (letOwnedTupleGo tg (.ref it) u) Q E s:=by
 unfold letOwnedTupleGo
 cases tg <;> first
  | exact wpAny_pure hQ
  | (cases u <;> first
    | exact wpAny_pure hQ
    | (refine wpAny_bind (wpAny_load ho ?_)
       rw [hc,hd]
       show wpAny M A (if (["enumerate", "zip", "dict_itemiterator", "dict_reverseitemiterator", "odict_iterator", "itertools.zip_longest", "itertools.pairwise"].contains n && vs[0]? == some (rawInt _))=true then _ else _) Q E s
       rw [if_neg (by intro h;rw [hn,Bool.false_and] at h;cases h)]
       exact wpAny_pure hQ))
def Dp (K:Fg) (a:Addr):It:=
 ⟨fun i H=>∃ xs x,bj K H a xs/\xs[i]?=some x,fun i H x H'=>H'=H/\∀ xs,bj K H a xs->xs[i]?=some x,fun i H=>∃ xs,bj K H a xs/\xs.length≤i⟩
def yC (K:Fg) (a:Addr):It:=
 ⟨fun i H=>∃ xs x,aZ K H a xs/\xs[i]?=some x,fun i H x H'=>H'=H/\∀ xs,aZ K H a xs->xs[i]?=some x,fun i H=>∃ xs,aZ K H a xs/\xs.length≤i⟩
def A0 (lo:Int) (n:Nat):It:=⟨fun i _=>i < n,fun i H x H'=>H'=H/\x=.int (lo+i),fun i _=>n≤i⟩
theorem mv {P:Program} {w:World} {K:Fg} {tg:Expr} (a it:Addr):sR P w K tg (Dp K a) [it] it (fun i h=>h.IsListIter it a i) where
 mem:=by simp
 obj:=fun i h st b hb=>by
  have e:b=it:=by simpa using hb
  subst e
  obtain⟨o,e,c,d⟩:=st
  exact⟨o,e,fun v z=>by rw [d] at z;cases z⟩
 keep:=fun i h h' st k=>st.at fun o e=>k it (by simp) o e
 item:=by
  intro X hP hw hK hc i pins s σ H E I hf st hg
  subst hP hw hK
  obtain⟨xs,x,hq,hx⟩:=hg
  obtain⟨its,rv,p,hz⟩:=I.list hq
  obtain⟨u,hu,ru⟩:=rv.get hx
  obtain⟨f0,f1,f2,f3,f4,f5⟩:=hf it (by simp)
  refine wpAny_pyNext_list_item st p.isList (x:=u) (by simpa using hu) fun h' st' sb=>?_
  have I1:Inv X pins σ H { s with heap:=h' }:=I.turned (t':=s.toks) (fun b o hb e=>(sb.2 b hb).trans e) f0 f1 f3 f4 f5
  obtain⟨o,e,c,d⟩:=id st'
  exact⟨u,rfl,xP (s:={ s with heap:=h' }) e c d (by decide) ⟨x,H,I1,ru,⟨rfl,fun ys hy=>by rw [I.list_inj hy hq];exact hx⟩,st',fun b hb=>(hf b hb).1⟩⟩
 done:=by
  intro X hP hw hK hc i pins s σ H E I hf st hg
  subst hP hw hK
  obtain⟨xs,hq,hx⟩:=hg
  obtain⟨its,rv,p,hz⟩:=I.list hq
  obtain⟨f0,f1,f2,f3,f4,f5⟩:=hf it (by simp)
  have hl:=rv.length
  exact wpAny_pyNext_list_end (I.ok.hd hc) st p.isList (by simp;omega) fun h' eb=>⟨rfl,I.turned (t':=s.toks) (fun b o hb e=>eb b o hb e) f0 f1 f3 f4 f5⟩
 self:=fun _ _ _ _ _ st h=>wpAny_pyIter_listiter st h
theorem kn {P:Program} {w:World} {K:Fg} {tg:Expr} (a it:Addr):sR P w K tg (yC K a) [it] it (fun i h=>h.IsTupleIter it a i) where
 mem:=by simp
 obj:=fun i h st b hb=>by
  have e:b=it:=by simpa using hb
  subst e
  obtain⟨o,e,c,d⟩:=st
  exact⟨o,e,fun v z=>by rw [d] at z;cases z⟩
 keep:=fun i h h' st k=>st.at fun o e=>k it (by simp) o e
 item:=by
  intro X hP hw hK hc i pins s σ H E I hf st hg
  subst hP hw hK
  obtain⟨xs,x,hq,hx⟩:=hg
  obtain⟨its,rv,p,hz⟩:=I.tuple hq
  obtain⟨u,hu,ru⟩:=rv.get hx
  obtain⟨f0,f1,f2,f3,f4,f5⟩:=hf it (by simp)
  refine wpAny_pyNext_tuple_item st (show s.heap.IsTuple a its.toArray from p) (x:=u) (by simpa using hu) fun h' st' sb=>?_
  have I1:Inv X pins σ H { s with heap:=h' }:=I.turned (t':=s.toks) (fun b o hb e=>(sb.2 b hb).trans e) f0 f1 f3 f4 f5
  obtain⟨o,e,c,d⟩:=id st'
  exact⟨u,rfl,xP (s:={ s with heap:=h' }) e c d (by decide) ⟨x,H,I1,ru,⟨rfl,fun ys hy=>by rw [I.tuple_inj hy hq];exact hx⟩,st',fun b hb=>(hf b hb).1⟩⟩
 done:=by
  intro X hP hw hK hc i pins s σ H E I hf st hg
  subst hP hw hK
  obtain⟨xs,hq,hx⟩:=hg
  obtain⟨its,rv,p,hz⟩:=I.tuple hq
  obtain⟨f0,f1,f2,f3,f4,f5⟩:=hf it (by simp)
  have hl:=rv.length
  exact wpAny_pyNext_tuple_end (I.ok.hd hc) st (show s.heap.IsTuple a its.toArray from p) (by simp;omega) fun h' eb=>⟨rfl,I.turned (t':=s.toks) (fun b o hb e=>eb b o hb e) f0 f1 f3 f4 f5⟩
 self:=fun _ _ _ _ _ st h=>wpAny_pyIter_tupleiter st h
theorem rk {P:Program} {w:World} {K:Fg} {tg:Expr} (it:Addr) (lo:Int) (n:Nat):sR P w K tg (A0 lo n) [it] it (fun i h=>IsRangeIter h it (lo+(i:Nat) * 1) ((n:Int) - (i:Nat)) 1) where
 mem:=by simp
 obj:=fun i h st b hb=>by
  have e:b=it:=by simpa using hb
  subst e
  exact⟨_,st,fun v z=>by
   have z':Data.fields _=Data.cell v:=z
   cases z'⟩
 keep:=fun i h h' st k=>k it (by simp) _ st
 item:=by
  intro X hP hw hK hc i pins s σ H E I hf st hg
  subst hP hw hK
  obtain⟨f0,f1,f2,f3,f4,f5⟩:=hf it (by simp)
  have W:=Walks.range (prog:=X.prog) (w:=X.w) (I.ok.hd hc) it lo 1 n
  refine W.item i s _ _ hg st fun v h' tk hv st' kk=>?_
  obtain⟨t,rfl⟩:=hv
  have I1:Inv X pins σ H { s with heap:=h',toks:=tk }:=I.turned (fun b o hb e=>kk b o (by simpa using hb) e) f0 f1 f3 f4 f5
  refine⟨_,rfl,xP (s:={ s with heap:=h',toks:=tk }) (n := "range_iterator") st' rfl rfl (by decide) ⟨.int (lo+i),H,I1,⟨t,?_⟩,⟨rfl,rfl⟩,st',fun b hb=>(hf b hb).1⟩⟩
  rw [Int.mul_one]
 done:=by
  intro X hP hw hK hc i pins s σ H E I hf st hg
  subst hP hw hK
  obtain⟨f0,f1,f2,f3,f4,f5⟩:=hf it (by simp)
  exact wpAny_pyNext_range_end (I.ok.hd hc) st (by have:n≤i:=hg;omega) fun h' eb=>⟨rfl,I.turned (t':=s.toks) (fun b o hb e=>eb b o hb e) f0 f1 f3 f4 f5⟩
 self:=fun _ _ _ _ _ st h=>wpAny_pyIter_rangeiter st h
end L2
namespace L2
open PySem PySem.Spec PyProof.Rows
section
variable {X:Cx} {tg:Expr}
def AT (K:Fg) (tl:TE):TI:=fun σ H R=>tl σ H fun x H1=>∃ a,x=.ref a/\(∃ xs,bj K H1 a xs)/\R (Dp K a) H1
def EG (K:Fg) (tl:TE):TI:=fun σ H R=>tl σ H fun x H1=>∃ a,x=.ref a/\(∃ xs,aZ K H1 a xs)/\R (yC K a) H1
theorem zh {l:Expr} {tl:TE} (hl:PE X l tl):PI X tg l (AT X.K tl):=by
 intro pins s σ H R I h
 refine cA (hl pins s σ H _ I h) fun v s1 ⟨x,H1,I1,r1,q1⟩=>?_
 obtain⟨a,e,⟨xs,hq⟩,q⟩:=q1
 subst e
 cases r1
 obtain⟨its,rv,p,hz⟩:=I1.list hq
 refine wpAny_pyIter_list p.isList ?_
 refine⟨s1.heap.objs.size,[s1.heap.objs.size],_,_,H1,rfl,I1.kept (t':=s1.toks) fun b o e=>Heap.get?_push_of_some _ e,mv a _,⟨_,Heap.get?_push_size _ rfl,rfl,rfl⟩,fun b hb=>?_,q⟩
 have e:b=s1.heap.objs.size:=by simpa using hb
 subst e
 exact I1.fpOk (Nat.le_refl _) (I1.hok.fresh (Nat.le_refl _))
theorem BS {l:Expr} {tl:TE} (hl:PE X l tl):PI X tg l (EG X.K tl):=by
 intro pins s σ H R I h
 refine cA (hl pins s σ H _ I h) fun v s1 ⟨x,H1,I1,r1,q1⟩=>?_
 obtain⟨a,e,⟨xs,hq⟩,q⟩:=q1
 subst e
 cases r1
 obtain⟨its,rv,p,hz⟩:=I1.tuple hq
 refine wpAny_pyIter_tuple (show s1.heap.IsTuple a its.toArray from p) ?_
 refine⟨s1.heap.objs.size,[s1.heap.objs.size],_,_,H1,rfl,I1.kept (t':=s1.toks) fun b o e=>Heap.get?_push_of_some _ e,kn a _,⟨_,Heap.get?_push_size _ rfl,rfl,rfl⟩,fun b hb=>?_,q⟩
 have e:b=s1.heap.objs.size:=by simpa using hb
 subst e
 exact I1.fpOk (Nat.le_refl _) (I1.hok.fresh (Nat.le_refl _))
theorem qm {pins:cf} {σ:St} {H:Hp} {s:Shared} {R:It->Hp->Prop} {E:cJ} {lo hi:Int} {t u v:Tok} {tk:Nat} (I:Inv X pins σ H s) (h1:-(2 ^ 62)≤lo) (h2:lo < 2 ^ 62) (h3:-(2 ^ 62)≤hi) (h4:hi < 2 ^ 62)
  (q:R (A0 lo (hi - lo).toNat) H):wpAny (model X.prog X.w) X.A (pyIter (.ref s.heap.objs.size)) (GW X pins σ tg R) E { s with heap:=s.heap.push { cls:=.type "range", data:=.fields #[.int lo t,.int hi u,.int 1 v] },toks:=tk }:=by
 refine wpAny_pyIter_range (IsRange.new ..) (small_one h1 h2 h3 h4) ?_
 have I1:Inv X pins σ H { s with heap:=s.heap.push { cls:=.type "range", data:=.fields #[.int lo t,.int hi u,.int 1 v] },toks:=tk }:=I.kept fun b o e=>Heap.get?_push_of_some _ e
 refine⟨(s.heap.push { cls:=.type "range", data:=.fields #[.int lo t,.int hi u,.int 1 v] }).objs.size,[(s.heap.push { cls:=.type "range", data:=.fields #[.int lo t,.int hi u,.int 1 v] }).objs.size],_,_,H,rfl,
  I1.kept (t':=tk) fun b o e=>Heap.get?_push_of_some _ e,rk _ lo (hi - lo).toNat,?_,fun b hb=>?_,q⟩
 ·have e1:lo+((0:Nat):Int) * 1=lo:=by simp
  have e2:(((hi - lo).toNat:Nat):Int) - ((0:Nat):Int)=Builtin.Range.rangeSize lo hi 1:=by rw [rangeSize_one];split <;> omega
  show IsRangeIter _ _ (lo+((0:Nat):Int) * 1) ((((hi - lo).toNat:Nat):Int) - ((0:Nat):Int)) 1
  rw [e1,e2]
  exact Heap.get?_push_size _ rfl
 ·have e:b=(s.heap.push { cls:=.type "range", data:=.fields #[.int lo t,.int hi u,.int 1 v] }).objs.size:=by simpa using hb
  subst e
  exact I1.fpOk (Nat.le_refl _) (I1.hok.fresh (Nat.le_refl _))
def AS (ta:TA):TI:=fun σ H R=>ta σ H fun vs H1=>∃ j:Int,vs=[.int j]/\-(2 ^ 62)≤j/\j < 2 ^ 62/\R (A0 0 j.toNat) H1
def AR (ta:TA):TI:=fun σ H R=>ta σ H fun vs H1=>∃ i j:Int,vs=[.int i,.int j]/\(-(2 ^ 62)≤i/\i < 2 ^ 62/\-(2 ^ 62)≤j/\j < 2 ^ 62)/\R (A0 i (j - i).toNat) H1
theorem u3 {a:Expr} {ta:TA} {p pos:Pos} (hg:Gl X "range") (hm:X.mg "range" = none) (ha:PA X [a] ta) (hs:starEach [a] X.env=[(false,eval a X.env)]:=by rfl):PI X tg (.Call (.Name "range" p) [a] [] pos) (AS ta):=by
 intro pins s σ H R I h
 refine Call_ (gF I hg hm boot_range (PyProof.Rows.callWith_type1 (cA (ha pos pins s σ H _ I h) fun us s1 ⟨vs,H1,I1,r1,q1⟩=>?_) hs rfl))
 obtain⟨j,e,q1,q2,q⟩:=q1
 subst e
 cases r1 with
 | cons r rr=>
  cases rr
  obtain⟨t,rfl⟩:=r
  exact call_range_1 (qm I1 (by omega) (by omega) q1 q2 (by simpa using q))
theorem u0 {a b:Expr} {ta:TA} {p pos:Pos} (hg:Gl X "range") (hm:X.mg "range" = none) (ha:PA X [a,b] ta) (hs:starEach [a,b] X.env=[(false,eval a X.env),(false,eval b X.env)]:=by rfl) (hs2:starEach [b] X.env=[(false,eval b X.env)]:=by rfl) :
  PI X tg (.Call (.Name "range" p) [a,b] [] pos) (AR ta):=by
 intro pins s σ H R I h
 refine Call_ (gF I hg hm boot_range (PyProof.Rows.callWith_type1 (cA (ha pos pins s σ H _ I h) fun us s1 ⟨vs,H1,I1,r1,q1⟩=>?_) (by rw [hs,hs2]) (by rw [hs2];rfl)))
 obtain⟨i,j,e,⟨q1,q2,q3,q4⟩,q⟩:=q1
 subst e
 cases r1 with
 | cons r rr=>
  cases rr with
  | cons r' rr=>
   cases rr
   obtain⟨t,rfl⟩:=r
   obtain⟨t',rfl⟩:=r'
   exact call_range_2 (qm I1 q1 q2 q3 q4 q)
def DK (wi:TI) (g:TG) (tb:TS):TS:=fun D σ H=>wi σ H fun J H1=>∃ W:Nat->Nat->St->Hp->Prop,(∃ m,W 0 m σ H1)/\∀ i m σ H,W i m σ H→
 (J.stop i H/\D.nx σ H)∨(J.go i H/\∃ N:St->Hp->Prop,(∀ σ' H',N σ' H'->∃ m',m' < m/\W (i+1) m' σ' H')/\∀ x H',J.yld i H x H'->g x σ H' fun σ2 H2=>tb { D with nx:=N,ct:=N,bk:=D.nx } σ2 H2)
def kM (fp:List Addr) (h:Heap):cf:=fp.filterMap fun b=>(h.get? b).map fun o=>(b,o)
theorem fY {fp:List Addr} {h:Heap} {b:Addr} {o:Obj} (hb:b∈fp) (e:h.get? b=some o):(b,o)∈kM fp h:=List.mem_filterMap.mpr ⟨b,hb,by rw [e];rfl⟩
theorem u9 {fp:List Addr} {h:Heap} {p:Addr×Obj} (hp:p∈kM fp h):p.1∈fp/\h.get? p.1=some p.2:=by
 obtain⟨b,hb,e⟩:=List.mem_filterMap.mp hp
 cases q:h.get? b with
 | none=>rw [q] at e;cases e
 | some o=>
  rw [q] at e
  have e':(b,o)=p:=Option.some.inj e
  subst e'
  exact⟨hb,q⟩
theorem Inv.pinned {pins:cf} {σ:St} {H:Hp} {s:Shared} {fp:List Addr} (I:Inv X pins σ H s) (hf:∀ b∈fp,jh X pins H b) (ho:∀ b∈fp,∃ o,s.heap.get? b=some o/\∀ v,o.data≠.cell v):Inv X (pins++kM fp s.heap) σ H s:=
 I.pins_of fun p hp=>(List.mem_append.mp hp).elim (fun z=>I.pin p (List.mem_append_right _ z)) fun z=>by
  obtain⟨hb,e⟩:=u9 z
  obtain⟨f0,f1,f2,_⟩:=hf p.1 hb
  obtain⟨o,e',d⟩:=ho p.1 hb
  rw [e] at e';cases e'
  exact⟨e,f0,f1,f2,d⟩
theorem Inv.unpinned {pins pl:cf} {σ:St} {H:Hp} {s:Shared} (I:Inv X (pins++pl) σ H s):Inv X pins σ H s:=I.pins_of fun p hp=>I.pin p (List.mem_append_right _ (List.mem_append_left _ hp))
theorem BP {iter:Expr} {body:List Stmt} {wi:TI} {g:TG} {tb:TS} {pos:Pos} (hp:PassesOwn (model X.prog X.w) X.A X.env X.xe) (hc:X.calm=true) (hi:PI X tg iter wi) (hg:PG X tg g) (hb:nX X body tb)
  (hs:∀ x,foldedSetIterable iter X.env x=pure x:=by intro _;rfl):PS X (.For tg iter body [] pos) (DK wi g tb):=by
 intro pins s σ H D I h
 refine wpAny_For (cA (hi pins s σ H _ I h) fun v s1 h1=>cA h1 fun itv s2 h2=>?_) hs
 obtain⟨it,fp,tn,J,H2,e,I2,T,st2,f2,W,⟨m0,w0⟩,turn⟩:=h2
 subst e
 have stat:∀ {H':Hp},(∀ b∈fp,H' b=none)->∀ b∈fp,jh X pins H' b:=fun hn b hb=>⟨hn b hb,(f2 b hb).2⟩
 refine codeAny_forLoop_any (fun n s'=>∃ i σ' H',Inv X pins σ' H' s'/\tn i s'.heap/\(∀ b∈fp,H' b=none)/\W i n σ' H') ?_ m0 ⟨0,σ,H2,I2,st2,fun b hb=>(f2 b hb).1,w0⟩
 rintro n s3 ⟨i,σ3,H3,I3,st3,fr3,w3⟩
 rcases turn i n σ3 H3 w3 with ⟨stop,qn⟩ | ⟨go,N,hN,step⟩
 ·refine wpAny_passesOwn hp (cA (T.done X rfl rfl rfl hc i pins s3 σ3 H3 X.xe I3 (stat fr3) st3 stop) fun r s4 ⟨hr,I4⟩=>?_)
  subst hr
  exact wpAny_execs_nil ⟨σ3,H3,I4,qn⟩
 ·refine wpAny_passesOwn hp (cA (T.item X rfl rfl rfl hc i pins s3 σ3 H3 X.xe I3 (stat fr3) st3 go) fun r s4 ⟨u,hr,h4⟩=>?_)
  subst hr
  refine wpAny_passesOwn hp (cA h4 fun _ s5 ⟨x,H5,I5,r5,y5,st5,fr5⟩=>?_)
  have I5':=I5.pinned (stat fr5) (T.obj _ _ st5)
  refine wpAny_passesOwn hp (cA (hg _ s5 σ3 H5 x u _ I5' r5 (step x H5 y5)) fun _ s6 ⟨σ6,H6,I6,q6⟩=>?_)
  refine wpAny_passesOwn hp (cA (hb _ s6 σ6 H6 _ I6 q6) fun f s7 q7=>?_)
  have again:∀ {σ7:St} {H7:Hp},Inv X (pins++kM fp s5.heap) σ7 H7 s7->N σ7 H7->∃ m,m < n/\∃ i σ' H',Inv X pins σ' H' s7/\tn i s7.heap/\(∀ b∈fp,H' b=none)/\W i m σ' H':=fun {σ7 H7} I7 n7=>by
   obtain⟨m',hm,w7⟩:=hN σ7 H7 n7
   refine⟨m',hm,i+1,σ7,H7,I7.unpinned,T.keep _ _ _ st5 fun b hb o e=>(I7.pin (b,o) (List.mem_append_right _ (List.mem_append_right _ (fY hb e)))).1,fun b hb=>?_,w7⟩
   obtain⟨o,e,d⟩:=T.obj _ _ st5 b hb
   exact (I7.pin (b,o) (List.mem_append_right _ (List.mem_append_right _ (fY hb e)))).2.1
  cases f with
  | next=>obtain⟨σ7,H7,I7,n7⟩:=q7;exact again I7 n7
  | cont=>obtain⟨σ7,H7,I7,n7⟩:=q7;exact again I7 n7
  | brk=>obtain⟨σ7,H7,I7,q7⟩:=q7;exact⟨σ7,H7,I7.unpinned,q7⟩
  | ret v=>obtain⟨x7,σ7,H7,I7,r7,q7⟩:=q7;exact⟨x7,σ7,H7,I7.unpinned,r7,q7⟩
end
theorem gI {K:Fg} {a:Addr} {xs:List V} {g:TG} {tb:TS} {D:iQ} {σ:St} {H:Hp} (Pv:Nat->St->Hp->Prop) (h0:Pv 0 σ H) (hl:∀ i σ H,i≤xs.length->Pv i σ H->bj K H a xs)
  (hs:∀ i x σ H,xs[i]?=some x->Pv i σ H->g x σ H fun σ2 H2=>tb { D with nx:=Pv (i+1),ct:=Pv (i+1),bk:=D.nx } σ2 H2) (hd:∀ σ H,Pv xs.length σ H->D.nx σ H) :
  ∃ W:Nat->Nat->St->Hp->Prop,(∃ m,W 0 m σ H)/\∀ i m σ H,W i m σ H→
   ((Dp K a).stop i H/\D.nx σ H)∨((Dp K a).go i H/\∃ N:St->Hp->Prop,(∀ σ' H',N σ' H'->∃ m',m' < m/\W (i+1) m' σ' H')/\∀ x H',(Dp K a).yld i H x H'->g x σ H' fun σ2 H2=>tb { D with nx:=N,ct:=N,bk:=D.nx } σ2 H2):=by
 refine⟨fun i m σ H=>m=xs.length - i/\i≤xs.length/\Pv i σ H,⟨xs.length,by simp,Nat.zero_le _,h0⟩,?_⟩
 rintro i m σ H ⟨rfl,hi,p⟩
 have q:=hl i σ H hi p
 by_cases hlt:i < xs.length
 ·refine .inr ⟨⟨xs,xs[i],q,by simp [hlt]⟩,Pv (i+1),fun σ' H' p'=>⟨xs.length - (i+1),by omega,rfl,hlt,p'⟩,fun x H' y=>?_⟩
  obtain⟨e,y⟩:=y
  subst e
  exact hs i x σ _ (y xs q) p
 ·have e:i=xs.length:=by omega
  subst e
  exact .inl ⟨⟨xs,q,Nat.le_refl _⟩,hd σ H p⟩
theorem fj {K:Fg} {a:Addr} {xs:List V} {g:TG} {tb:TS} {D:iQ} {σ:St} {H:Hp} (Pv:Nat->St->Hp->Prop) (h0:Pv 0 σ H) (hl:∀ i σ H,i≤xs.length->Pv i σ H->aZ K H a xs)
  (hs:∀ i x σ H,xs[i]?=some x->Pv i σ H->g x σ H fun σ2 H2=>tb { D with nx:=Pv (i+1),ct:=Pv (i+1),bk:=D.nx } σ2 H2) (hd:∀ σ H,Pv xs.length σ H->D.nx σ H) :
  ∃ W:Nat->Nat->St->Hp->Prop,(∃ m,W 0 m σ H)/\∀ i m σ H,W i m σ H→
   ((yC K a).stop i H/\D.nx σ H)∨((yC K a).go i H/\∃ N:St->Hp->Prop,(∀ σ' H',N σ' H'->∃ m',m' < m/\W (i+1) m' σ' H')/\∀ x H',(yC K a).yld i H x H'->g x σ H' fun σ2 H2=>tb { D with nx:=N,ct:=N,bk:=D.nx } σ2 H2):=by
 refine⟨fun i m σ H=>m=xs.length - i/\i≤xs.length/\Pv i σ H,⟨xs.length,by simp,Nat.zero_le _,h0⟩,?_⟩
 rintro i m σ H ⟨rfl,hi,p⟩
 have q:=hl i σ H hi p
 by_cases hlt:i < xs.length
 ·refine .inr ⟨⟨xs,xs[i],q,by simp [hlt]⟩,Pv (i+1),fun σ' H' p'=>⟨xs.length - (i+1),by omega,rfl,hlt,p'⟩,fun x H' y=>?_⟩
  obtain⟨e,y⟩:=y
  subst e
  exact hs i x σ _ (y xs q) p
 ·have e:i=xs.length:=by omega
  subst e
  exact .inl ⟨⟨xs,q,Nat.le_refl _⟩,hd σ H p⟩
theorem dk {lo:Int} {n:Nat} {g:TG} {tb:TS} {D:iQ} {σ:St} {H:Hp} (Pv:Nat->St->Hp->Prop) (h0:Pv 0 σ H)
  (hs:∀ i σ H,i < n->Pv i σ H->g (.int (lo+i)) σ H fun σ2 H2=>tb { D with nx:=Pv (i+1),ct:=Pv (i+1),bk:=D.nx } σ2 H2) (hd:∀ σ H,Pv n σ H->D.nx σ H) :
  ∃ W:Nat->Nat->St->Hp->Prop,(∃ m,W 0 m σ H)/\∀ i m σ H,W i m σ H→
   ((A0 lo n).stop i H/\D.nx σ H)∨((A0 lo n).go i H/\∃ N:St->Hp->Prop,(∀ σ' H',N σ' H'->∃ m',m' < m/\W (i+1) m' σ' H')/\∀ x H',(A0 lo n).yld i H x H'->g x σ H' fun σ2 H2=>tb { D with nx:=N,ct:=N,bk:=D.nx } σ2 H2):=by
 refine⟨fun i m σ H=>m=n - i/\i≤n/\Pv i σ H,⟨n,by simp,Nat.zero_le _,h0⟩,?_⟩
 rintro i m σ H ⟨rfl,hi,p⟩
 by_cases hlt:i < n
 ·refine .inr ⟨hlt,Pv (i+1),fun σ' H' p'=>⟨n - (i+1),by omega,rfl,hlt,p'⟩,fun x H' y=>?_⟩
  obtain⟨e,y⟩:=y
  subst e y
  exact hs i σ _ hlt p
 ·have e:i=n:=by omega
  subst e
  exact .inl ⟨Nat.le_refl _,hd σ H p⟩
end L2
namespace L2
open PySem PySem.Spec PyProof.Rows
abbrev R2:=V->V->Hp->VK->Prop
def fB (X:Cx) (f:Value->Value->Sem Value) (r:R2):Prop:=
 ∀ (pins:cf) (s:Shared) (σ:St) (H:Hp) (x y:V) (v u:Value) (Q:VK),Inv X pins σ H s->bo x v->bo y u->r x y H Q→
  wpAny (model X.prog X.w) X.A (f v u) (EP X pins σ Q) X.xe s
def Fv (X:Cx) (f:Value->Sem Value) (r:V->Hp->VK->Prop):Prop:=
 ∀ (pins:cf) (s:Shared) (σ:St) (H:Hp) (x:V) (v:Value) (Q:VK),Inv X pins σ H s->bo x v->r x H Q→
  wpAny (model X.prog X.w) X.A (f v) (EP X pins σ Q) X.xe s
def cU (X:Cx) (f:Value) (r:List V->Hp->VK->Prop):Prop:=
 ∀ (pins:cf) (s:Shared) (σ:St) (H:Hp) (xs:List V) (us:List Value) (Q:VK),Inv X pins σ H s->bf xs us->r xs H Q→
  wpAny (model X.prog X.w) X.A (call f us) (EP X pins σ Q) X.xe s
def HV (X:Cx) (r:V->Hp->(Bool->Hp->Prop)->Prop):Prop:=
 ∀ (pins:cf) (s:Shared) (σ:St) (H:Hp) (x:V) (v:Value) (Q:Bool->Hp->Prop),Inv X pins σ H s->bo x v->r x H Q→
  wpAny (model X.prog X.w) X.A (truthy v) (TP X pins σ Q) X.xe s
def yG (r:R2) (ta tb:TE):TE:=fun σ H Q=>ta σ H fun x H1=>tb σ H1 fun y H2=>r x y H2 Q
def Gq (r:V->Hp->VK->Prop) (ta:TE):TE:=fun σ H Q=>ta σ H fun x H1=>r x H1 Q
def rI (C:Int->Int->Prop) (g:Int->Int->V):R2:=fun x y H Q=>∃ i j,x=.int i/\y=.int j/\C i j/\Q (g i j) H
def AI (g:Int->Int->V):R2:=fun x y H Q=>∃ i j,x=.int i/\y=.int j/\Q (g i j) H
def rU (g:Int->V):V->Hp->VK->Prop:=fun x H Q=>∃ i,x=.int i/\Q (g i) H
section
variable {X:Cx} {a b c:Expr} {ta tb tc:TE} {pos:Pos}
theorem Dd (ha:PE X a ta) (hb:PE X b tb) {pins:cf} {s:Shared} {σ:St} {H:Hp} {R:V->V->Hp->Prop} (I:Inv X pins σ H s)
  (h:ta σ H fun x H1=>tb σ H1 fun y H2=>R x y H2) {Q:cJ} {f:Value->Value->Sem Value}
  (hf:∀ v u s2 x y H2,Inv X pins σ H2 s2->bo x v->bo y u->R x y H2->wpAny (model X.prog X.w) X.A (f v u) Q X.xe s2) :
  wpAny (model X.prog X.w) X.A (eval a X.env) (fun v s₁=>wpAny (model X.prog X.w) X.A (eval b X.env) (fun u s₂=>wpAny (model X.prog X.w) X.A (f v u) Q X.xe s₂) X.xe s₁) X.xe s:=by
 refine cA (ha pins s σ H _ I h) fun v s1 ⟨x,H1,I1,r1,q1⟩=>?_
 refine cA (hb pins s1 σ H1 _ I1 q1) fun u s2 ⟨y,H2,I2,r2,q2⟩=>?_
 exact hf v u s2 x y H2 I2 r1 r2 q2
theorem Ek {op:Operator} {r:R2} (ho:fB X (binaryOp op) r) (ha:PE X a ta) (hb:PE X b tb):PE X (.BinOp a op b pos) (yG r ta tb):=by
 intro pins s σ H Q I h
 exact wpAny_BinOp (Dd ha hb I h fun v u s2 x y H2 I2 rx ry q=>ho pins s2 σ H2 x y v u Q I2 rx ry q)
theorem AL {op:UnaryOp} {r:V->Hp->VK->Prop} (ho:Fv X (unaryOp op) r) (ha:PE X a ta):PE X (.UnaryOp op a pos) (Gq r ta):=by
 intro pins s σ H Q I h
 exact UnaryOp_ (cA (ha pins s σ H _ I h) fun v s1 ⟨x,H1,I1,r1,q1⟩=>ho pins s1 σ H1 x v Q I1 r1 q1)
theorem Cf {f:Value->Value->Sem Value} {C:Int->Int->Prop} {g:Int->Int->Int}
  (rule:∀ (i j:Int) (t u:Tok) (s:Shared) (Q:cJ) (E:cJ),C i j->Q (.int (g i j) s.toks) { s with toks:=s.toks+1 }->wpAny (model X.prog X.w) X.A (f (.int i t) (.int j u)) Q E s) :
  fB X f (rI C fun i j=>.int (g i j)):=by
 intro pins s σ H x y v u Q I rx ry h
 obtain⟨i,j,rfl,rfl,hc,q⟩:=h
 obtain⟨t,rfl⟩:=rx
 obtain⟨t',rfl⟩:=ry
 exact rule i j t t' s _ _ hc ⟨.int (g i j),H,I.tok _,⟨_,rfl⟩,q⟩
theorem Er {f:Value->Value->Sem Value} {g:Int->Int->Int}
  (rule:∀ (i j:Int) (t u:Tok) (s:Shared) (Q:cJ) (E:cJ),Q (.int (g i j) s.toks) { s with toks:=s.toks+1 }->wpAny (model X.prog X.w) X.A (f (.int i t) (.int j u)) Q E s) :
  fB X f (AI fun i j=>.int (g i j)):=by
 intro pins s σ H x y v u Q I rx ry h
 obtain⟨i,j,rfl,rfl,q⟩:=h
 obtain⟨t,rfl⟩:=rx
 obtain⟨t',rfl⟩:=ry
 exact rule i j t t' s _ _ ⟨.int (g i j),H,I.tok _,⟨_,rfl⟩,q⟩
theorem zz {f:Value->Value->Sem Value} {g:Int->Int->Bool}
  (rule:∀ (i j:Int) (t u:Tok) (s:Shared) (Q:cJ) (E:cJ),Q (.bool (g i j)) s->wpAny (model X.prog X.w) X.A (f (.int i t) (.int j u)) Q E s) :
  fB X f (AI fun i j=>.bl (g i j)):=by
 intro pins s σ H x y v u Q I rx ry h
 obtain⟨i,j,rfl,rfl,q⟩:=h
 obtain⟨t,rfl⟩:=rx
 obtain⟨t',rfl⟩:=ry
 exact rule i j t t' s _ _ ⟨.bl (g i j),H,I,rfl,q⟩
def Gm (i j:Int):Prop:=0 < j/\j < 1073741824
def GZ (i j:Int):Prop:=j≠0/\j.natAbs < 1073741824
def Gk (i j:Int):Prop:=0≤j/\j≤1000000/\i.natAbs < 2 ^ 64
def Dr (i j:Int):Prop:=(-(2 ^ 64) < i/\i < 2 ^ 64)∨(-(2 ^ 64) < j/\j < 2 ^ 64)
theorem Dr.ok {i j:Int} (h:Dr i j):IntMulOk i j:=by
 rcases h with ⟨h1,h2⟩ | ⟨h1,h2⟩
 ·exact .of_left (intBits_le_64 h1 h2)
 ·exact .of_right (intBits_le_64 h1 h2)
theorem cI:fB X (binaryOp .Add) (AI fun i j=>.int (i+j)):=Er fun _ _ _ _ _ _ _ q=>add_int q
theorem fS:fB X (binaryOp .Sub) (AI fun i j=>.int (i - j)):=Er fun _ _ _ _ _ _ _ q=>sub_int q
theorem iJ:fB X (binaryOp .Mult) (rI Dr fun i j=>.int (i * j)):=Cf fun _ _ _ _ _ _ _ hc q=>mul_int q hc.ok
theorem oU:fB X (binaryOp .FloorDiv) (rI Gm fun i j=>.int (i / j)):=Cf fun i j _ _ _ _ _ hc q=>by
 have h1:(0:Int) < j:=hc.1
 have h2:j < 1073741824:=hc.2
 exact floordiv_int (by omega) (by rw [Int.fdiv_eq_ediv_of_nonneg i (by omega)];exact q) (.inl (PyProof.noPylong_small (by omega)))
theorem fU:fB X (binaryOp .Mod) (rI (fun _ j=>0 < j) fun i j=>.int (i % j)):=Cf fun i j _ _ _ _ _ hc q=>by
 have h1:(0:Int) < j:=hc
 exact mod_int' (by omega) (by rw [Int.fmod_eq_emod_of_nonneg i (by omega)];exact q)
theorem Cd:fB X (binaryOp .Pow) (rI Gk fun i j=>.int (i ^ j.toNat)):=Cf fun _ _ _ _ _ _ _ hc q=>pow_int_small hc.1 hc.2.1 hc.2.2 q
theorem G3 {f:Value->Sem Value} {g:Int->Int}
  (rule:∀ (i:Int) (t:Tok) (s:Shared) (Q:cJ) (E:cJ),Q (.int (g i) s.toks) { s with toks:=s.toks+1 }->wpAny (model X.prog X.w) X.A (f (.int i t)) Q E s) :
  Fv X f (rU fun i=>.int (g i)):=by
 intro pins s σ H x v Q I rx h
 obtain⟨i,rfl,q⟩:=h
 obtain⟨t,rfl⟩:=rx
 exact rule i t s _ _ ⟨.int (g i),H,I.tok _,⟨_,rfl⟩,q⟩
theorem dJ:Fv X (unaryOp .USub) (rU fun i=>.int (-i)):=G3 fun _ _ _ _ _ q=>neg_int q
end
def DP:V->V->Bool
 | .non,.non=>true | .non,.int _=>true | .int _,.non=>true | .non,.bl _=>true | .bl _,.non=>true | .non,.str _=>true | .str _,.non=>true
 | .int _,.int _=>true | .bl _,.bl _=>true | .str _,.str _=>true | .byt _,.byt _=>true
 | .int _,.str _=>true | .str _,.int _=>true | .bl _,.str _=>true | .str _,.bl _=>true
 | _,_=>false
def Hv:R2:=fun x y H Q=>DP x y=true/\Q (.bl (decide (x=y))) H
def Hq:R2:=fun x y H Q=>DP x y=true/\Q (.bl (!decide (x=y))) H
theorem ul {i j:Int}:decide (V.int i=V.int j)=(i == j):=by
 rw [Bool.eq_iff_iff]
 simp
theorem yd {i j:Bool}:decide (V.bl i=V.bl j)=(i == j):=by
 rw [Bool.eq_iff_iff]
 simp
theorem uk {i j:Str}:decide (V.str i=V.str j)=(i == j):=by
 rw [Bool.eq_iff_iff]
 simp
theorem um {i j:Array UInt8}:decide (V.byt i=V.byt j)=(i.toList == j.toList):=by
 rw [Bool.eq_iff_iff]
 cases i
 cases j
 simp
section
variable {X:Cx} {a b c:Expr} {ta tb tc:TE} {pos:Pos}
theorem bF {pins:cf} {σ:St} {H:Hp} {s:Shared} {Q:VK} {k k':Bool} (I:Inv X pins σ H s) (q:Q (.bl k) H) (e:k=k'):EP X pins σ Q (.bool k') s:=by
 subst e
 exact⟨.bl k,H,I,rfl,q⟩
theorem df:fB X (compareOp .Eq) Hv:=by
 intro pins s σ H x y v u Q I rx ry h
 obtain⟨hs,q⟩:=h
 cases x with
 | non=>
  cases rx
  cases y with
  | non=>cases ry;exact PySem.EqNone.eq_none_none (bF I q (by simp))
  | bl j=>cases ry;exact PySem.EqNone.eq_none_bool (bF I q (by simp))
  | int j=>obtain⟨t',rfl⟩:=ry;exact PySem.EqNone.eq_none_int (bF I q (by simp))
  | str j=>obtain⟨t',rfl⟩:=ry;exact PySem.EqNone.eq_none_str (bF I q (by simp))
  | _=>exact absurd (show false=true from hs) Bool.false_ne_true
 | bl i=>
  cases rx
  cases y with
  | non=>cases ry;exact PySem.EqNone.eq_bool_none (bF I q (by simp))
  | bl j=>cases ry;exact eq_bool (bF I q yd)
  | str j=>obtain⟨t',rfl⟩:=ry;exact PySem.EqMixed.eq_bool_str (bF I q (by simp))
  | _=>exact absurd (show false=true from hs) Bool.false_ne_true
 | int i=>
  obtain⟨t,rfl⟩:=rx
  cases y with
  | non=>cases ry;exact PySem.EqNone.eq_int_none (bF I q (by simp))
  | int j=>obtain⟨t',rfl⟩:=ry;exact eq_int (bF I q ul)
  | str j=>obtain⟨t',rfl⟩:=ry;exact PySem.EqMixed.eq_int_str (bF I q (by simp))
  | _=>exact absurd (show false=true from hs) Bool.false_ne_true
 | str i=>
  obtain⟨t,rfl⟩:=rx
  cases y with
  | non=>cases ry;exact PySem.EqNone.eq_str_none (bF I q (by simp))
  | bl j=>cases ry;exact PySem.EqMixed.eq_str_bool (bF I q (by simp))
  | int j=>obtain⟨t',rfl⟩:=ry;exact PySem.EqMixed.eq_str_int (bF I q (by simp))
  | str j=>obtain⟨t',rfl⟩:=ry;exact eq_str (bF I q uk)
  | _=>exact absurd (show false=true from hs) Bool.false_ne_true
 | byt i=>
  obtain⟨t,rfl⟩:=rx
  cases y with
  | byt j=>obtain⟨t',rfl⟩:=ry;exact PySem.W.eq_bytes (bF I q um)
  | _=>exact absurd (show false=true from hs) Bool.false_ne_true
 | _=>cases y <;> exact absurd (show false=true from hs) Bool.false_ne_true
theorem iu:fB X (compareOp .NotEq) Hq:=by
 intro pins s σ H x y v u Q I rx ry h
 obtain⟨hs,q⟩:=h
 cases x with
 | non=>
  cases rx
  cases y with
  | non=>cases ry;exact PySem.EqNone.ne_none_none (bF I q (by simp))
  | bl j=>cases ry;exact PySem.EqNone.ne_none_bool (bF I q (by simp))
  | int j=>obtain⟨t',rfl⟩:=ry;exact PySem.EqNone.ne_none_int (bF I q (by simp))
  | str j=>obtain⟨t',rfl⟩:=ry;exact PySem.EqNone.ne_none_str (bF I q (by simp))
  | _=>exact absurd (show false=true from hs) Bool.false_ne_true
 | bl i=>
  cases rx
  cases y with
  | non=>cases ry;exact PySem.EqNone.ne_bool_none (bF I q (by simp))
  | bl j=>cases ry;exact ne_bool (bF I q (congrArg not yd))
  | str j=>obtain⟨t',rfl⟩:=ry;exact PySem.EqMixed.ne_bool_str (bF I q (by simp))
  | _=>exact absurd (show false=true from hs) Bool.false_ne_true
 | int i=>
  obtain⟨t,rfl⟩:=rx
  cases y with
  | non=>cases ry;exact PySem.EqNone.ne_int_none (bF I q (by simp))
  | int j=>obtain⟨t',rfl⟩:=ry;exact ne_int (bF I q (congrArg not ul))
  | str j=>obtain⟨t',rfl⟩:=ry;exact PySem.EqMixed.ne_int_str (bF I q (by simp))
  | _=>exact absurd (show false=true from hs) Bool.false_ne_true
 | str i=>
  obtain⟨t,rfl⟩:=rx
  cases y with
  | non=>cases ry;exact PySem.EqNone.ne_str_none (bF I q (by simp))
  | bl j=>cases ry;exact PySem.EqMixed.ne_str_bool (bF I q (by simp))
  | int j=>obtain⟨t',rfl⟩:=ry;exact PySem.EqMixed.ne_str_int (bF I q (by simp))
  | str j=>obtain⟨t',rfl⟩:=ry;exact ne_str (bF I q (congrArg not uk))
  | _=>exact absurd (show false=true from hs) Bool.false_ne_true
 | byt i=>
  obtain⟨t,rfl⟩:=rx
  cases y with
  | byt j=>obtain⟨t',rfl⟩:=ry;exact PySem.W.ne_bytes (bF I q (congrArg not um))
  | _=>exact absurd (show false=true from hs) Bool.false_ne_true
 | _=>cases y <;> exact absurd (show false=true from hs) Bool.false_ne_true
theorem i0:fB X (compareOp .Lt) (AI fun i j=>.bl (decide (i < j))):=zz fun _ _ _ _ _ _ _ q=>lt_int q
theorem nz:fB X (compareOp .LtE) (AI fun i j=>.bl (decide (i≤j))):=zz fun _ _ _ _ _ _ _ q=>le_int q
theorem iw:fB X (compareOp .Gt) (AI fun i j=>.bl (decide (j < i))):=zz fun _ _ _ _ _ _ _ q=>gt_int q
theorem Ep:fB X (compareOp .GtE) (AI fun i j=>.bl (decide (j≤i))):=zz fun _ _ _ _ _ _ _ q=>ge_int q
theorem kQ:fB X (compareOp .Is) (fun x y H Q=>y=.non/\Q (.bl (decide (x=.non))) H):=by
 intro pins s σ H x y v u Q I rx ry h
 obtain⟨rfl,q⟩:=h
 cases ry
 refine is_none_gen (bF I q ?_)
 cases x <;> first
  | (cases rx;rfl)
  | (obtain⟨t,rfl⟩:=rx;rfl)
theorem oR:fB X (compareOp .IsNot) (fun x y H Q=>y=.non/\Q (.bl (!decide (x=.non))) H):=by
 intro pins s σ H x y v u Q I rx ry h
 obtain⟨rfl,q⟩:=h
 cases ry
 refine isnot_none_gen (bF I q ?_)
 cases x <;> first
  | (cases rx;rfl)
  | (obtain⟨t,rfl⟩:=rx;rfl)
def GM:HO->Bool
 | .lst _=>true
 | .ins _ _ _=>true
 | _=>false
theorem aK (b:Expr) {op:CmpOp} (h:op≠.In:=by decide) (h2:op≠.NotIn:=by decide):behindInMarks op b=false:=by
 have e1:(op == CmpOp.In)=false:=by cases op <;> first | rfl | exact absurd rfl h
 have e2:(op == CmpOp.NotIn)=false:=by cases op <;> first | rfl | exact absurd rfl h2
 cases b <;> simp [behindInMarks,e1,e2]
theorem zq {op:CmpOp} {r:R2} (ho:fB X (compareOp op) r) (ha:PE X a ta) (hb:PE X b tb) (hm:behindInMarks op b=false):PE X (.Compare a [op] [b] pos) (yG r ta tb):=by
 intro pins s σ H Q I h
 exact wpAny_Compare1 (Dd ha hb I h fun v u s2 x y H2 I2 rx ry q=>ho pins s2 σ H2 x y v u Q I2 rx ry q) hm
def tf (t:TE):TT:=fun σ H Q=>t σ H fun x H'=>∃ k,x=.bl k/\Q k H'
theorem yZ {op:CmpOp} {r:R2} (ho:fB X (compareOp op) r) (ha:PE X a ta) (hb:PE X b tb) (hm:behindInMarks op b=false):PT X (.Compare a [op] [b] pos) (tf (yG r ta tb)):=by
 intro pins s σ H Q I h
 refine wpAny_isTrue_Compare1 (cA (ha pins s σ H _ I h) fun v s1 ⟨x,H1,I1,r1,q1⟩=>cA (hb pins s1 σ H1 _ I1 q1) fun u s2 ⟨y,H2,I2,r2,q2⟩=>
  cA (ho pins s2 σ H2 x y v u _ I2 r1 r2 q2) fun c s3 ⟨z,H3,I3,r3,k,e,q3⟩=>?_) hm
 subst e
 cases r3
 exact wpAny_truthy_bool ⟨H3,I3,q3⟩
def oh (r r':R2) (ta tb tc:TE):TE:=fun σ H Q=>ta σ H fun x H1=>tb σ H1 fun y H2=>r x y H2 fun z H3=>∃ k,z=.bl k∧
 (if k=true then tc σ H3 fun w' H4=>r' y w' H4 Q else Q (.bl false) H3)
theorem wU {op op':CmpOp} {r r':R2} (ho:fB X (compareOp op) r) (ho':fB X (compareOp op') r') (ha:PE X a ta) (hb:PE X b tb) (hc:PE X c tc)
  (hm:lastMarks [op,op'] [b,c]=false:=by with_unfolding_all rfl):PE X (.Compare a [op,op'] [b,c] pos) (oh r r' ta tb tc):=by
 intro pins s σ H Q I h
 refine Compare_chain (cA (ha pins s σ H _ I h) fun v s1 ⟨x,H1,I1,r1,q1⟩=>chain_link (cA (hb pins s1 σ H1 _ I1 q1) fun u s2 ⟨y,H2,I2,r2,q2⟩=>
  cA (ho pins s2 σ H2 x y v u _ I2 r1 r2 q2) fun d s3 ⟨z,H3,I3,r3,k,e,q3⟩=>?_)) hm
 subst e
 cases r3
 refine wpAny_truthy_bool ?_
 cases k with
 | false=>exact ite_ff ⟨.bl false,H3,I3,rfl,q3⟩
 | true=>exact ite_tt (chain_last (cA (hc pins s3 σ H3 _ I3 q3) fun w' s4 ⟨z',H4,I4,r4,q4⟩=>ho' pins s4 σ H4 y z' u w' Q I4 r2 r4 q4))
theorem wB {op op':CmpOp} {r r':R2} (ho:fB X (compareOp op) r) (ho':fB X (compareOp op') r') (ha:PE X a ta) (hb:PE X b tb) (hc:PE X c tc)
  (hm:lastMarks [op,op'] [b,c]=false:=by with_unfolding_all rfl):PT X (.Compare a [op,op'] [b,c] pos) (tf (oh r r' ta tb tc)):=by
 intro pins s σ H Q I h
 refine isTrue_chain (cA (ha pins s σ H _ I h) fun v s1 ⟨x,H1,I1,r1,q1⟩=>test_link (cA (hb pins s1 σ H1 _ I1 q1) fun u s2 ⟨y,H2,I2,r2,q2⟩=>
  cA (ho pins s2 σ H2 x y v u _ I2 r1 r2 q2) fun d s3 ⟨z,H3,I3,r3,k,e,q3⟩=>?_)) hm
 subst e
 cases r3
 refine wpAny_truthy_bool ?_
 cases k with
 | false=>
  obtain⟨k',e',q'⟩:=q3
  cases e'
  exact ite_ff ⟨H3,I3,q'⟩
 | true=>
  refine ite_tt (test_last (cA (hc pins s3 σ H3 _ I3 q3) fun w' s4 ⟨z',H4,I4,r4,q4⟩=>cA (ho' pins s4 σ H4 y z' u w' _ I4 r2 r4 q4) fun d' s5 ⟨z2,H5,I5,r5,k2,e2,q5⟩=>?_))
  subst e2
  cases r5
  exact wpAny_truthy_bool ⟨H5,I5,q5⟩
def HU (K:Fg) (x:V) (H:Hp) (k:Bool):Prop:=
 match x with
 | .non=>k=false
 | .bl b=>k=b
 | .int i=>k=(i != 0)
 | .str y=>y.length≤sizeLine/\k=((y.length:Int) != 0)
 | .byt y=>y.size≤sizeLine/\k=((y.size:Int) != 0)
 | .ref p=>(∃ xs,bj K H p xs/\k=!xs.isEmpty)∨(∃ xs,aZ K H p xs/\k=!xs.isEmpty)∨∃ kvs,H p=some (.dK kvs)/\k=!kvs.isEmpty
 | _=>False
theorem o4:(sizeLine:Nat) < 2 ^ 63:=by rw [sizeLine_eq];decide
def EW (b:Expr):Prop:=∀ o i,subscripted b false o i=operate [o,i] (getItem o i)
theorem eU {x:V} {us:List Value} (r:bf [x] us):∃ u,us=[u]/\bo x u:=by
 cases r with
 | cons r1 r2=>cases r2;exact⟨_,rfl,r1⟩
theorem sY {x y:V} {us:List Value} (r:bf [x,y] us):∃ u w',us=[u,w']/\bo x u/\bo y w':=by
 cases r with
 | cons r1 r2=>
  cases r2 with
  | cons r3 r4=>cases r4;exact⟨_,_,rfl,r1,r3⟩
theorem lH:cU X (.builtin "abs") (fun xs H Q=>∃ i,xs=[.int i]/\Q (.int (if i < 0 then -i else i)) H):=by
 intro pins s σ H xs us Q I r h
 obtain⟨i,rfl,q⟩:=h
 obtain⟨u,rfl,t,rfl⟩:=eU r
 exact call_abs_int fun u tk=>⟨.int (if i < 0 then -i else i),H,I.tok _,⟨_,rfl⟩,q⟩
def Ii (K:Fg) (x:V) (H:Hp) (n:Nat):Prop:=
 match x with
 | .str y=>y.length≤sizeLine/\n=y.length
 | .byt y=>y.size≤sizeLine/\n=y.size
 | .ref p=>(∃ xs,bj K H p xs/\n=xs.length)∨∃ xs,aZ K H p xs/\n=xs.length
 | _=>False
end
end L2
namespace L2
open PySem PySem.Spec PyProof.Rows
structure Dn (h:Heap) (x dx C:Addr) (mA:Str->Option Value):Prop where
 obj:h.get? x=some (PySem.W.instObj C dx)
 ns:h.Ns1 dx mA
 ne:dx≠x
theorem nE {h:Heap} {dx:Addr} {mA:Str->Option Value} (n:h.Ns1 dx mA):∃ od,h.get? dx=some od/\∀ name,PySem.W.lookIn name od=some (mA name):=by
 obtain⟨o,es,ep,ho,hd,hk,_,hm⟩:=n
 refine⟨o,ho,fun name=>?_⟩
 have e:=hm name
 unfold nsFind findBy at e
 rw [← Array.find?_toList] at e
 unfold PySem.W.lookIn
 rw [hd]
 dsimp only
 split
 ·rename_i y q
  rw [q] at e
  exact congrArg some e
 ·rename_i q
  rw [q] at e
  have a:es.toList.any (·.refKey)=false:=by
   rw [List.any_eq_false]
   intro y hy
   obtain⟨z,t,hkey⟩:=hk y (Array.mem_toList_iff.mp hy)
   simp [DictEntry.refKey,hkey]
  have a':¬ es.toList.any (·.refKey)=true:=by rw [a];exact Bool.false_ne_true
  rw [if_neg a']
  exact congrArg some e
theorem Dn.look {h:Heap} {x dx C:Addr} {mA:Str->Option Value} (I:Dn h x dx C mA):∃ od,PySem.W.InstAt h x (PySem.W.instObj C dx) C (some od)/\∀ name,PySem.W.lookIn name od=some (mA name):=
 let ⟨od,ho,hl⟩:=nE I.ns
 ⟨od,⟨I.obj,rfl,rfl,ho⟩,hl⟩
section
variable {prog:Program} {w:World} {A:Around} {E:cJ} {s:Shared} {K:Fg} {x dx C f:Addr} {mA:Str->Option Value} {name:Str} {v:Value}
end
def BJ (f:Str) (v:V):List (Str×V)->List (Str×V)
 | []=>[(f,v)]
 | (g,x) :: r=>if g=f then (g,v) :: r else (g,x) :: BJ f v r
theorem f7.some_of {v:V} {o:Option Value} (r:f7 (some v) o):∃ u,o=some u/\bo v u:=by
 cases o with
 | none=>exact (show False from r).elim
 | some u=>exact⟨u,rfl,r⟩
theorem vh {v:V} {u:Value} (r:bo v u):PySem.W.handedIn u=true:=by
 cases v with
 | non=>cases (show u=Value.none from r);rfl
 | bl b=>cases (show u=Value.bool b from r);rfl
 | int i=>obtain⟨t,e⟩:=(show ∃ t,u=Value.int i t from r);cases e;rfl
 | str x=>obtain⟨t,e⟩:=(show ∃ t,u=Value.str x t from r);cases e;rfl
 | byt b=>obtain⟨t,e⟩:=(show ∃ t,u=Value.bytes b t from r);cases e;rfl
 | flt b=>obtain⟨t,e⟩:=(show ∃ t,u=Value.float b t from r);cases e;rfl
 | ref a=>cases (show u=Value.ref a from r);rfl
 | ty n=>cases (show u=Value.type n from r);rfl
section
variable {P:Program} {w:World} {H H':Hp} {h h':Heap} {a C dx:Addr} {fs fs':List (Str×V)}
theorem zR (hok:iA P w H h) (e:H a=some (.ins C dx fs)):∃ mA,Dn h a dx C mA/\(∀ f,f7 (fs.lookup f) (mA f))/\PySem.Within mA (fs.map (·.1))/\fs.length≤1000/\H dx=some (.own a):=by
 obtain⟨d,z,ne,ob,mA,n,r,q⟩:=(show ObjOk P w H h a (.ins C dx fs) from hok a _ e)
 exact⟨mA,⟨ob,n,ne⟩,r,q,z,d⟩
end
structure Dq (K:Fg) (C:Addr):Prop where
 pg:PySem.W.plainGet K C Str.empty=true
 hd:PySem.W.hasDictIn K C=true
 po:PySem.W.plainOver K C=true
 sa:PySem.W.findIn K (.ref C) "__setattr__" = some (some (.builtin "object.__setattr__"))
theorem Dq.get {K:Fg} {C:Addr} (c:Dq K C) (f:Str):PySem.W.plainGet K C f=true:=c.pg
def eP (K:Fg) (C:Addr) (f:Str):Prop:=PySem.W.findIn K (.ref C) f=some none
structure Ir (K:Fg) (C:Addr) (f:Str) (v:V) (u:Value):Prop where
 at_:PySem.W.findIn K (.ref C) f=some (some u)
 rel:bo v u
 get:PySem.W.specialIn K u "__get__" = some none
 cp:PySem.W.copiedNames.contains f=false
structure Ih (K:Fg) (C:Addr) (m:Str) (f:Addr):Prop where
 at_:PySem.W.findIn K (.ref C) m=some (some (.ref f))
 fn:PySem.W.isFn K (.ref f)=true
 kp:PySem.W.keepIn K (.ref f)=true
section
variable {X:Cx} {pins:cf} {σ:St} {H:Hp} {s:Shared} {a C dx:Addr} {fs:List (Str×V)} {f:Str} {v:V} {A:Around} {E:cJ}
theorem Ag {prog:Program} {w:World} {env:Env} {e:Expr} {f:Str} {pos:Pos} {s:Shared} {Q:cJ} (hb:attributeBase e f env (eval e env)=eval e env)
  (h:wpAny (model prog w) A (eval e env) (fun o s₁=>wpAny (model prog w) A (getAttr o f true) Q E s₁) E s):wpAny (model prog w) A (eval (.Attribute e f pos) env) Q E s:=
 Attribute_any_ h (by rw [arm_eval_Attribute,hb])
end
def He (K:Fg) (ta:TE) (f:Str):TE:=fun σ H Q=>ta σ H fun x H1=>∃ a C dx fs v,x=.ref a/\H1 a=some (.ins C dx fs)/\Dq K C/\eP K C f/\fs.lookup f=some v/\Q v H1
def Hg (K:Fg) (ta:TE) (f:Str):TE:=fun σ H Q=>ta σ H fun x H1=>∃ a C dx fs v u,x=.ref a/\H1 a=some (.ins C dx fs)/\Dq K C/\Ir K C f v u/\fs.lookup f=none/\Q v H1
def Hk (K:Fg) (ta tv:TE) (f:Str):TS:=fun D σ H=>tv σ H fun y H1=>ta σ H1 fun x H2=>∃ a C dx fs,x=.ref a/\H2 a=some (.ins C dx fs)/\Dq K C/\eP K C f/\fs.length < 1000∧
 D.nx σ (upd H2 a (.ins C dx (BJ f y fs)))
def Im (X:Cx) (op:Operator) (rd:V->V->Hp->VK->Prop):Prop:=
 ∀ (pins:cf) (s:Shared) (σ:St) (H:Hp) (x y:V) (u v:Value) (Q:VK),Inv X pins σ H s->bo x u->bo y v->rd x y H Q->wpAny (model X.prog X.w) X.A (inplaceOp op u v) (EP X pins σ Q) X.xe s
def Fh (K:Fg) (ta tv:TE) (rd:V->V->Hp->VK->Prop) (f:Str):TS:=fun D σ H=>ta σ H fun x H1=>∃ a C dx fs v,x=.ref a/\H1 a=some (.ins C dx fs)/\Dq K C/\eP K C f/\fs.lookup f=some v∧
 tv σ H1 fun y H2=>rd v y H2 fun z H3=>∃ dx' fs',H3 a=some (.ins C dx' fs')/\fs'.length < 1000/\D.nx σ (upd H3 a (.ins C dx' (BJ f z fs')))
section
variable {X:Cx} {o e value:Expr} {f:Str} {pos pos' tpos:Pos} {ta tv:TE}
def Hw:V->V->Hp->VK->Prop:=fun x y H Q=>∃ i j,x=.int i/\y=.int j/\Q (.int (i+j)) H
def Hl:V->V->Hp->VK->Prop:=fun x y H Q=>∃ i j,x=.int i/\y=.int j/\Q (.int (i - j)) H
end
section
variable {X:Cx} {pins:cf} {σ:St} {H:Hp} {s:Shared} {A:Around} {E:cJ} {Q:cJ} {c:Value} {b:Bool}
inductive jF (K:Fg) (H:Hp):V->Value->Prop where
 | non:jF K H .non (.type "NoneType")
 | bl (x:Bool):jF K H (.bl x) (.type "bool")
 | int (i:Int):jF K H (.int i) (.type "int")
 | str (x:Str):jF K H (.str x) (.type "str")
 | flt (x:UInt64):jF K H (.flt x) (.type "float")
 | lst {a:Addr} {xs:List V} (e:H a=some (.lst xs)):jF K H (.ref a) (.type "list")
 | frz {a:Addr} {o:Obj} {xs:List V} (e:H a=some (.frz o (.lst xs))):jF K H (.ref a) (.type "list")
 | tup {a:Addr} {xs:List V} (e:H a=some (.tup xs)):jF K H (.ref a) (.type "tuple")
 | dK {a:Addr} {kvs:List (cZ×V)} (e:H a=some (.dK kvs)):jF K H (.ref a) (.type "dict")
 | dT {a:Addr} {kvs:List (List cZ×V)} (e:H a=some (.dT kvs)):jF K H (.ref a) (.type "dict")
 | ins {a C dx:Addr} {fs:List (Str×V)} (e:H a=some (.ins C dx fs)) (cl:Dq K C) (ha:PySem.W.findIn K (.ref C) "__class__" = some (some (.builtin "object.__class__")))
   (hn:PySem.W.specialIn K (.builtin "object.__class__") "__get__" = some (some (.builtin "getset_descriptor.__get__"))) (htk:PySem.W.takesIn K (.builtin "object.__class__")=some true)
   (hm:PySem.W.mroIn K C (.type "object")=some true):jF K H (.ref a) (.ref C)
theorem vf {x:V} {u t:Value} (I:Inv X pins σ H s) (rx:bo x u) (ty:jF X.K H x t) (e:PySem.W.kitOne X.K t c=some b) (h:∀ tk,Q (.bool b) { s with toks:=tk }) :
  wpAny (model X.prog X.w) A (call (.builtin "isinstance") [u,c]) Q E s:=by
 cases ty with
 | non=>cases (show u=Value.none from rx);exact PySem.W.kia_one PySem.W.kitx_none I.kIn True.intro e (fun z=>nomatch z) h
 | bl y=>cases (show u=Value.bool y from rx);exact PySem.W.kia_one PySem.W.kitx_bool I.kIn True.intro e (fun z=>nomatch z) h
 | int i=>obtain⟨t,q⟩:=(show ∃ t,u=Value.int i t from rx);cases q;exact PySem.W.kia_one PySem.W.kitx_int I.kIn True.intro e (fun z=>nomatch z) h
 | str y=>obtain⟨t,q⟩:=(show ∃ t,u=Value.str y t from rx);cases q;exact PySem.W.kia_one PySem.W.kitx_str I.kIn True.intro e (fun z=>nomatch z) h
 | flt y=>obtain⟨t,q⟩:=(show ∃ t,u=Value.float y t from rx);cases q;exact PySem.W.kia_one PySem.W.kitx_float I.kIn True.intro e (fun z=>nomatch z) h
 | @lst a xs ea=>
  cases (show u=Value.ref a from rx)
  obtain⟨_,_,n,_,h1⟩:=(show ObjOk X.prog X.w H s.heap a (.lst xs) from I.hok a _ ea)
  exact PySem.W.kia_one PySem.W.kitx_list I.kIn ⟨_,h1,rfl⟩ e (fun z=>nomatch z) h
 | @frz a ob xs ea=>
  cases (show u=Value.ref a from rx)
  obtain⟨_,_,_,n,_,h1⟩:=(show ObjOk X.prog X.w H s.heap a (.frz ob (.lst xs)) from I.hok a _ ea)
  exact PySem.W.kia_one PySem.W.kitx_list I.kIn ⟨_,h1,rfl⟩ e (fun z=>nomatch z) h
 | @tup a xs ea=>
  cases (show u=Value.ref a from rx)
  obtain⟨_,_,_,p⟩:=(show ObjOk X.prog X.w H s.heap a (.tup xs) from I.hok a _ ea)
  obtain⟨o,h1,h2,_⟩:=p
  exact PySem.W.kia_one PySem.W.kitx_tuple I.kIn ⟨o,h1,h2⟩ e (fun z=>nomatch z) h
 | @dK a kvs ea=>
  cases (show u=Value.ref a from rx)
  obtain⟨_,_,vs,_,p⟩:=(show ObjOk X.prog X.w H s.heap a (.dK kvs) from I.hok a _ ea)
  obtain⟨o,es,ep,h1,h2,_⟩:=p
  exact PySem.W.kia_one PySem.W.kitx_dict I.kIn ⟨o,h1,h2.1⟩ e (fun z=>nomatch z) h
 | @dT a kvs ea=>
  cases (show u=Value.ref a from rx)
  obtain⟨_,_,xs,_,o,es,ep,h1,h2,_⟩:=(show ObjOk X.prog X.w H s.heap a (.dT kvs) from I.hok a _ ea)
  exact PySem.W.kia_one PySem.W.kitx_dict I.kIn ⟨o,h1,h2.1⟩ e (fun z=>nomatch z) h
 | @ins a C dx fs ea cl ha hn htk hm=>
  cases (show u=Value.ref a from rx)
  obtain⟨mA,O,_⟩:=zR I.hok ea
  obtain⟨od,J,_⟩:=O.look
  exact PySem.W.kia_one (PySem.W.kitx_own (cl.get _) cl.hd ha hn htk hm) I.kIn J e (fun z=>nomatch z) h
end
end L2
namespace L2
open PySem PySem.Spec PyProof.Rows
structure dD (k:Nat) (A:Around):Prop where
 hd:A.handled=none
 dp:A.depth+3 * k+5 < recursionLimit
 un:A.units+16 * k+200 < cLine
 gd:A.guards=some []
theorem dD.mono {j k:Nat} {A:Around} (r:dD k A) (h:j≤k):dD j A:=⟨r.hd,by have:=r.dp;omega,by have:=r.un;omega,r.gd⟩
theorem dD.deeper {k:Nat} {A:Around} (r:dD (k+1) A) (env:Env):dD k (A.deeper env):=
 ⟨r.hd,by have:=r.dp;show A.depth+1+3 * k+5 < _;omega,by have:=r.un;show A.units+3+16 * k+200 < _;omega,r.gd⟩
theorem su {A:Around} {C:Addr} {us:List Value} {kw:List (Str×Value)}:(A.under (.builtin "type.__call__" ⟨.ref C :: us,kw⟩)).depth=A.depth+1:=by
 first | rfl | simp [Around.under,Code.weight,Code.isCreation,Code.isGuard,Code.isCaller,Code.frames,Code.isFrame,guardIds]
theorem sr {A:Around} {C:Addr} {us:List Value} {kw:List (Str×Value)}:(A.under (.builtin "type.__call__" ⟨.ref C :: us,kw⟩)).units=A.units+1:=by
 first | rfl | simp [Around.under,Code.cUnits,Code.frames,Code.isFrame]
theorem qC {A:Around} {C:Addr} {us:List Value} {kw:List (Str×Value)}:(A.under (.builtin "type.__call__" ⟨.ref C :: us,kw⟩)).guards=A.guards:=by
 first | rfl | simp [Around.under,Code.guards,Code.isGuard,guardIds,pushGuards]
theorem dD.make {k:Nat} {A:Around} (r:dD (k+1) A) (C:Addr) (us:List Value) (kw:List (Str×Value)):dD k (A.under (.builtin "type.__call__" ⟨.ref C :: us,kw⟩)):=
 ⟨r.hd,by have:=r.dp;rw [su];omega,by have:=r.un;rw [sr];omega,by rw [qC];exact r.gd⟩
theorem dD.depth {k:Nat} {A:Around} (r:dD k A):A.depth < recursionLimit:=by have:=r.dp;omega
theorem dD.units {k:Nat} {A:Around} (r:dD k A):A.units+64 < cLine:=by have:=r.un;omega
def DH:TA:=fun _ H Q=>Q [] H
def Ay (ta:TE) (tr:TA):TA:=fun σ H Q=>ta σ H fun x H1=>tr σ H1 fun xs H2=>Q (x :: xs) H2
section
variable {X:Cx} {e:Expr} {es:List Expr} {te:TE} {t:TA} {pos:Pos}
theorem Cc:PA X [] DH:=fun _ _ _ _ H Q I h=>Calls.spliced_nil ⟨[],H,I,.nil,h⟩
theorem zv (ha:PE X e te) (hr:PA X es t) (hs:starEach (e :: es) X.env=(false,eval e X.env) :: starEach es X.env:=by rfl):PA X (e :: es) (Ay te t):=by
 intro pos pins s σ H Q I h
 rw [hs]
 show wpAny _ _ (spliced ((false,eval e X.env) :: backTo pos (starEach es X.env))) _ _ s
 refine Calls.spliced_cons (cA (ha pins s σ H _ I h) fun u s1 ⟨x,H1,I1,r1,q1⟩=>?_)
 exact cA (hr pos pins s1 σ H1 _ I1 q1) fun us s2 ⟨xs,H2,I2,r2,q2⟩=>⟨x :: xs,H2,I2,.cons r1 r2,q2⟩
def DA (t:TA):TE:=fun σ H Q=>t σ H fun xs H1=>xs.length≤sizeLine/\∀ p,H1 p=none->Q (.ref p) (upd H1 p (.tup xs))
def DI (t:TA):TE:=fun σ H Q=>t σ H fun xs H1=>xs.length≤sizeLine/\∀ p,H1 p=none->Q (.ref p) (upd H1 p (.lst xs))
theorem BX {x1} (h:PA X es t):PE X (.Tuple es x1 pos) (DA t):=by
 intro pins s σ H Q I hq
 refine wpAny_Tuple_spliced (cA (h pos pins s σ H _ I hq) fun us s1 ⟨xs,H1,I1,r,z,q⟩=>⟨by rw [← r.length];exact z,?_⟩)
 have hf:H1 s1.heap.objs.size=none:=I1.hok.fresh (Nat.le_refl _)
 refine⟨.ref s1.heap.objs.size,upd H1 s1.heap.objs.size (.tup xs),I1.laid (t':=s1.toks) (fun b u e=>Heap.get?_push_of_some _ e) (Nat.le_refl _) ?_,rfl,q _ hf⟩
 exact⟨z,us,r,⟨_,Heap.get?_push_size _ rfl,rfl,_,rfl⟩⟩
theorem B4 (h:PA X es t):PE X (.List es pos) (DI t):=by
 intro pins s σ H Q I hq
 refine wpAny_List_spliced (cA (h pos pins s σ H _ I hq) fun us s1 ⟨xs,H1,I1,r,z,q⟩=>⟨by rw [← r.length];exact z,?_⟩)
 have hf:H1 s1.heap.objs.size=none:=I1.hok.fresh (Nat.le_refl _)
 refine⟨.ref s1.heap.objs.size,upd H1 s1.heap.objs.size (.lst xs),I1.laid (t':=s1.toks) (fun b u e=>Heap.get?_push_of_some _ e) (Nat.le_refl _) ?_,rfl,q _ hf⟩
 exact⟨z,us,0,r,Heap.get?_push_size _ rfl⟩
end
abbrev Sp:=List V->Hp->VK->XK->Prop
abbrev pG:=List Env->Hp->Shared->XK->Value->Shared->Prop
structure l7 (P:Program) (w:World) (K:Fg) (mg:Str->Option Value) (base:Heap) (A:Around) (outer:List Env) (s:Shared) (H:Hp):Prop where
 frames:A.frames=some outer
 mod:Mod K mg base
 bs:∀ b o,base.get? b=some o->s.heap.get? b=some o/\H b=none
 bsz:base.objs.size≤s.heap.objs.size
 funs:s.heap.FunFrames base outer
 frf:∀ b∈lT outer,H b=none
 hok:iA P w H s.heap
 bare:AllBare s.gens
def CE (outer:List Env) (P:Program) (w:World) (H:Hp) (s:Shared) (Q:VK) (u:Value) (s':Shared):Prop:=
 ∃ v H',s'.os=s.os/\AllBare s'.gens/\Un (lT outer) [] H H' s.heap s'.heap/\iA P w H' s'.heap/\bo v u/\Q v H'
def CR (CX:pG) (outer:List Env) (P:Program) (w:World) (H:Hp) (s:Shared) (Q:VK) (E:XK) (r:Result) (s':Shared):Prop:=
 match r with
 | .ok (.ret u)=>CE outer P w H s Q u s'
 | .ok _=>False
 | .error e=>CX outer H s E e s'
structure bK (P:Program) (w:World) (K:Fg) (mg:Str->Option Value) (base:Heap) (CX:pG) (k:Nat) (f:Addr) (fd:FuncData) (ps:List Str) (sp:Sp):Prop where
 len:∀ vs H Q E,sp vs H Q E->vs.length=ps.length
 run:∀ (A:Around) (outer:List Env) (s:Shared) (H:Hp) (args:Args) (us:List Value) (vs:List V) (Q:VK) (E:XK),dD k A->l7 P w K mg base A outer s H->BindsTo s fd args (ps.zip us)->bf vs us->sp vs H Q E→
  codeAny (model P w) A (.call (.ref f) args) (CR CX outer P w H s Q E) s
theorem l7.make {P:Program} {w:World} {K:Fg} {mg:Str->Option Value} {base:Heap} {A:Around} {outer:List Env} {s:Shared} {H:Hp} (e:l7 P w K mg base A outer s H) (C:Addr) (us:List Value) (kw:List (Str×Value)) :
  l7 P w K mg base (A.under (.builtin "type.__call__" ⟨.ref C :: us,kw⟩)) outer s H:=⟨by first | exact e.frames | (simpa [Around.under,Code.envs,Code.isFrame,pushEnvs] using e.frames),e.mod,e.bs,e.bsz,e.funs,e.frf,e.hok,e.bare⟩
section
variable {X:Cx} {pins:cf} {σ:St} {H:Hp} {s s':Shared}
theorem Inv.env0 (I:Inv X pins σ H s):l7 X.prog X.w X.K X.mg X.base X.A X.stack s H:=
 ⟨I.ok.frames,I.ok.mod,I.bs,Nat.le_trans I.ok.bsz I.sz,I.stack,I.stkFree,I.hok,I.bare⟩
theorem Inv.after {Q:VK} {u:Value} (I:Inv X pins σ H s) (h:CE X.stack X.prog X.w H s Q u s'):EP X pins σ Q u s':=by
 obtain⟨v,H',os,bare,un,hok,r,q⟩:=h
 obtain⟨hh,g,d,t,os'⟩:=s'
 obtain rfl:os'=s.os:=os
 exact⟨v,H',I.call (h':=hh) (g':=g) (d':=d) (t':=t) (ch:=[]) un hok bare (fun b z=>absurd z (by simp)),r,q⟩
end
def pV (sp:Sp) (dvs:List V) (E:XK) (t:TA):TE:=fun σ H Q=>t σ H fun vs H1=>sp (vs++dvs) H1 Q E
def Gy (C:Addr) (m:Str) (sp:Sp) (dvs:List V) (E:XK) (ta:TE) (t:TA):TE:=fun σ H Q=>ta σ H fun x H1=>∃ a dx fs,x=.ref a/\H1 a=some (.ins C dx fs)/\fs.lookup m=none∧
 t σ H1 fun vs H2=>sp (x :: (vs++dvs)) H2 Q E
def Gz (C:Addr) (sp:Sp) (dvs:List V) (E:XK) (t:TA):TE:=fun σ H Q=>t σ H fun vs H1=>∀ x dx,H1 x=none->H1 dx=none->dx≠x→
 sp (.ref x :: (vs++dvs)) (upd (upd H1 dx (.own x)) x (.ins C dx [])) (fun v H2=>v=.non/\Q (.ref x) H2) E
def bi (K:Fg) (fd:FuncData) (ps:List Str) (ds:List Value):Prop:=
 ∀ (s:Shared) (us:List Value),K.In s.heap->(us++ds).length=ps.length->BindsTo s fd ⟨us,[]⟩ (ps.zip (us++ds))
theorem bi.all {K:Fg} {fd:FuncData} {ps:List Str} (h:∀ us:List Value,us.length=ps.length->bindArgs fd ⟨us,[]⟩=pure (ps.zip us)):bi K fd ps []:=fun s us _ hl=>by
 rw [List.append_nil] at hl ⊢
 exact .of_eq (h us hl)
def f8 (CX:pG) (X:Cx) (E:XK):Prop:=∀ (pins:cf) (σ:St) (H:Hp) (s:Shared) (e:Value) (s':Shared),Inv X pins σ H s->CX X.stack H s E e s'->X.xe e s'
section
variable {X:Cx} {CX:pG} {k:Nat} {f C:Addr} {fd:FuncData} {ps:List Str} {sp:Sp} {dvs:List V} {ds:List Value} {E:XK} {x m:Str} {p pos apos:Pos} {e o:Expr} {es:List Expr} {ta:TE} {t:TA}
theorem BA {pins:cf} {σ:St} {H:Hp} {s:Shared} {Q:VK} {us:List Value} {vs:List V} (F:bK X.prog X.w X.K X.mg X.base CX k f fd ps sp) (hr:dD k X.A) (hb:bi X.K fd ps ds) (hd:bf dvs ds) (hx:f8 CX X E)
  (I:Inv X pins σ H s) (r:bf vs us) (h:sp (vs++dvs) H Q E):wpAny (model X.prog X.w) X.A (call (.ref f) us) (EP X pins σ Q) X.xe s:=by
 have r2:bf (vs++dvs) (us++ds):=r.append hd
 have hl:(us++ds).length=ps.length:=by rw [← r2.length];exact F.len _ _ _ _ h
 refine wpAny_call (codeAny_mono (F.run X.A X.stack s H ⟨us,[]⟩ (us++ds) (vs++dvs) Q E hr I.env0 (hb s us I.kIn hl) r2 h) fun r s' hq=>?_)
 cases r with
 | error e=>exact hx pins σ H s e s' I hq
 | ok fl=>
  cases fl with
  | ret u=>exact I.after hq
  | next=>exact False.elim hq
  | brk=>exact False.elim hq
  | cont=>exact False.elim hq
theorem zt (F:bK X.prog X.w X.K X.mg X.base CX k f fd ps sp) (hr:dD k X.A) (hg:Gl X x) (hm:X.mg x=some (.ref f)) (hk:PySem.W.keepIn X.K (.ref f)=true) (hb:bi X.K fd ps ds) (hd:bf dvs ds) (hx:f8 CX X E)
  (ha:PA X (e :: es) t) (hdb:(x == ("__debug__" : Str))=false:=by decide) (he:starEach (e :: es) X.env=(false,eval e X.env) :: starEach es X.env:=by rfl) (hpl:(backTo pos (starEach es X.env)).any (·.1)=false:=by rfl) :
  PE X (.Call (.Name x p) (e :: es) [] pos) (pV sp dvs E t):=by
 intro pins s σ H Q I h
 refine wpAny_Call_Name_kw (i5 I hg hm ?_ hdb)
 refine PySem.W.callWith_K (h₀:=X.base) I.ok.mod.kin hk (cA (ha pos pins s σ H _ I h) fun us s1 ⟨vs,H1,I1,r,q⟩=>⟨I1.kIn,?_⟩) he hpl
 exact BA F hr hb hd hx I1 r q
structure Mk (K:Fg) (C f:Addr):Prop where
 makes:PySem.W.makesIn K C=true
 init:PySem.W.findIn K (.ref C) "__init__" = some (some (.ref f))
 fn:PySem.W.isFn K (.ref f)=true
 kp:PySem.W.keepIn K (.ref C)=true
end
def PK (X:Cx) (kws:List Keyword) (t:TA):Prop:=
 ∀ (pos:Pos) (pins:cf) (s:Shared) (σ:St) (H:Hp) (Q:List V->Hp->Prop),Inv X pins σ H s->t σ H Q->wpAny (model X.prog X.w) X.A (evalAll ((backToKw pos (keywordEach kws X.env)).map (·.2))) (AP X pins σ Q) X.xe s
section
variable {X:Cx} {CX:pG} {k:Nat} {f C:Addr} {fd:FuncData} {ps ks:List Str} {sp:Sp} {E:XK} {x m:Str} {p pos apos kpos:Pos} {e o:Expr} {es:List Expr} {kws:List Keyword} {te ta:TE} {t tk:TA} {nm:Option Str}
structure Ge (K:Fg) (fd:FuncData) (ps ks:List Str) (g:List Value->List Value->List Value) (gV:List V->List V->List V):Prop where
 to:∀ (s:Shared) (us ws:List Value),K.In s.heap->(g us ws).length=ps.length->BindsTo s fd ⟨us,ks.zip ws⟩ (ps.zip (g us ws))
 rel:∀ {vs:List V} {us:List Value} {zs:List V} {ws:List Value},bf vs us->bf zs ws->bf (gV vs zs) (g us ws)
def FK (sp:Sp) (gV:List V->List V->List V) (E:XK) (t tk:TA):TE:=fun σ H Q=>t σ H fun vs H1=>tk σ H1 fun zs H2=>sp (gV vs zs) H2 Q E
variable {g:List Value->List Value->List Value} {gV:List V->List V->List V}
end
structure aO (N P:List Str) (sc:Scope):Prop where
 kind:sc.kind=.function
 co:sc.isCoroutine=false
 gen:sc.isGenerator=false
 nd:N.Nodup
 pre:N.take P.length=P
 par:∀ x∈P,sc.names.lookup x=some .local∨sc.names.lookup x=some .cell
 nofree:∀ y∈sc.names,y.2≠.free
theorem nQ {kindOf:Str->Option NameKind} {x:Str}:∀ {binds:List (Str×Value)} {m:Str->Option Value},(∀ v,(x,v)∉binds)->bindL kindOf binds m x=m x
 | [],_,_=>rfl
 | (n,v) :: r,m,h=>by
  unfold bindL
  rw [nQ fun w hw=>h w (List.mem_cons_of_mem _ hw)]
  split
  ·have:x≠n:=by rintro rfl;exact h v List.mem_cons_self
   simp [this]
  ·rfl
theorem nS {kindOf:Str->Option NameKind} {x:Str}:∀ {binds:List (Str×Value)} {m:Str->Option Value},(∀ v,(x,v)∉binds)->bindC kindOf binds m x=m x
 | [],_,_=>rfl
 | (n,v) :: r,m,h=>by
  unfold bindC
  rw [nS fun w hw=>h w (List.mem_cons_of_mem _ hw)]
  split
  ·rfl
  ·have:x≠n:=by rintro rfl;exact h v List.mem_cons_self
   simp [this]
theorem nR {kindOf:Str->Option NameKind} {x:Str} {v:Value}:∀ {P:List Str} {vs:List Value} {i:Nat} {m:Str->Option Value},P.Nodup->P[i]?=some x->vs[i]?=some v->kindOf x=some .local→
  bindL kindOf (P.zip vs) m x=some v
 | [],_,_,_,_,h,_,_=>by simp at h
 | _ :: _,[],_,_,_,_,h,_=>by simp at h
 | p :: P,w :: vs,0,m,nd,h1,h2,hk=>by
  simp at h1 h2;subst h1;subst h2
  show bindL kindOf ((p,w) :: P.zip vs) m p=_
  unfold bindL
  rw [nQ fun v hv=>(List.nodup_cons.mp nd).1 (List.of_mem_zip hv).1,if_pos hk]
  simp
 | p :: P,w :: vs,i+1,m,nd,h1,h2,hk=>by
  show bindL kindOf ((p,w) :: P.zip vs) m x=_
  unfold bindL
  exact nR (i:=i) (List.nodup_cons.mp nd).2 (by simpa using h1) (by simpa using h2) hk
theorem nU {kindOf:Str->Option NameKind} {x:Str} {v:Value}:∀ {P:List Str} {vs:List Value} {i:Nat} {m:Str->Option Value},P.Nodup->P[i]?=some x->vs[i]?=some v->kindOf x≠some .local→
  bindC kindOf (P.zip vs) m x=some v
 | [],_,_,_,_,h,_,_=>by simp at h
 | _ :: _,[],_,_,_,_,h,_=>by simp at h
 | p :: P,w :: vs,0,m,nd,h1,h2,hk=>by
  simp at h1 h2;subst h1;subst h2
  show bindC kindOf ((p,w) :: P.zip vs) m p=_
  unfold bindC
  rw [nS fun v hv=>(List.nodup_cons.mp nd).1 (List.of_mem_zip hv).1,if_neg hk]
  simp
 | p :: P,w :: vs,i+1,m,nd,h1,h2,hk=>by
  show bindC kindOf ((p,w) :: P.zip vs) m x=_
  unfold bindC
  exact nU (i:=i) (List.nodup_cons.mp nd).2 (by simpa using h1) (by simpa using h2) hk
def eV (N:List Str) (vs:List V):St:=vs.map some++List.replicate (N.length - vs.length) none
def bP (CX:pG) (P:Program) (w:World) (K:Fg) (mg:Str->Option Value) (base:Heap) (N:List Str) (qual:Str) (scope:Scope) (f:Addr) (cd:Value) (A:Around) (outer:List Env) (s:Shared) (H:Hp) (E:XK):Cx where
 prog:=P
 w:=w
 K:=K
 mg:=mg
 base:=base
 A:=A.deeper (envOfC qual scope s.heap.objs.size f cd)
 N:=N
 s₀:=s
 H₀:=H
 env:=envOfC qual scope s.heap.objs.size f cd
 outer:=outer
 stack:=envOfC qual scope s.heap.objs.size f cd :: outer
 ex:=[]
 calm:=true
 fn:=fun _=>true
 pn:=[]
 xe:=fun e s'=>wpAny (model P w) (A.deeper (envOfC qual scope s.heap.objs.size f cd)) (leaving (envOfC qual scope s.heap.objs.size f cd) e) (fun _ s''=>CX outer H s E e s'') (fun e' s''=>CX outer H s E e' s'') s'
theorem qU {sc:Scope} {n:Nat} {x:Str} (h:sc.names.lookup x=some .cell):∃ c,(cellsFrom n sc.names []).lookup x=some c:=by
 have q:=PySem.W.cellsFrom_some sc.names n [] (.inl h)
 exact Option.isSome_iff_exists.mp q
theorem nG {CX:pG} {P:Program} {w:World} {K:Fg} {mg:Str->Option Value} {base:Heap} {N ps:List Str} {qual:Str} {scope:Scope} {f:Addr} {cd:Value} {A:Around} {outer:List Env} {s s1:Shared} {H:Hp} {E:XK} {us:List Value} {vs:List V}
  (S:aO N ps scope) (hd:A.handled=none) (e0:l7 P w K mg base A outer s H) (hl:vs.length=ps.length) (r:bf vs us)
  (x:InCallC s s.heap.objs.size (bindL (envOfC qual scope s.heap.objs.size f cd).kindOf (ps.zip us) fun _=>none) (cellsFrom (s.heap.objs.size+1) scope.names []) (bindC (envOfC qual scope s.heap.objs.size f cd).kindOf (ps.zip us) fun _=>none) s1) :
  Inv (bP CX P w K mg base N qual scope f cd A outer s H E) [] (eV N vs) H s1:=by
 have hpl:ps.length≤N.length:=by have:=congrArg List.length S.pre;rw [List.length_take] at this;omega
 obtain⟨h1,tk,rfl,hk⟩:=x.done
 have noA:∀ b:Addr,b∉(bP CX P w K mg base N qual scope f cd A outer s H E).ex:=fun b z=>absurd (show b∈([]:List Addr) from z) (by simp)
 refine⟨⟨e0.mod,S.kind,rfl,rfl,Nat.le_refl _,fun y z c h1 h2=>?_,fun y hy=>?_,fun y c _ h=>?_,fun _=>hd,Around.frames_deeper e0.frames,.inr ⟨rfl,rfl⟩,fun b z=>absurd z (noA b),e0.bs,e0.bsz,fun b _ _=>noA b,fun b z=>absurd z (noA b),e0.funs,e0.frf⟩,
  rfl,e0.bare,Un.kept hk,⟨_,x.toInCall.ns,fun i y v h1 h2 h3=>?_⟩,fun y c h=>⟨_,x.cell y c h⟩,e0.hok.fresh (Nat.le_refl _),fun y c h=>?_,fun p hp=>absurd (show p∈([]:cf) from hp) (by simp),e0.hok.kept hk,?_⟩
 ·exact name_of_addr x.apart (PySem.mem_of_lookup h1) (PySem.mem_of_lookup h2)
 ·have hy:scope.names.lookup y=some .cell∨scope.names.lookup y=some .free:=hy
  rcases hy with hy | hy
  ·exact qU hy
  ·exact absurd rfl (S.nofree _ (PySem.mem_of_lookup hy))
 ·exact Nat.le_of_lt (x.above y c (PySem.mem_of_lookup h))
 ·have hi:i < vs.length:=by
   unfold eV at h2
   by_cases hi:i < vs.length
   ·exact hi
   ·rw [List.getElem?_append_right (by simpa using hi)] at h2
    rw [List.getElem?_replicate] at h2
    split at h2 <;> cases h2
  have ha:vs[i]?=some v:=by
   unfold eV at h2
   rw [List.getElem?_append_left (by simpa using hi),List.getElem?_map] at h2
   cases e:vs[i]? with
   | none=>rw [e] at h2;cases h2
   | some a=>rw [e] at h2;cases h2;rfl
  obtain⟨u,hu,rv⟩:=r.get ha
  have hp:ps[i]?=some y:=by
   rw [← S.pre,List.getElem?_take_of_lt (by omega)];exact h1
  have ndP:ps.Nodup:=by rw [← S.pre];exact S.nd.sublist (List.take_sublist _ _)
  refine⟨u,rv,?_⟩
  rcases S.par y (List.mem_of_getElem? hp) with k | k
  ·exact .inl ⟨k,nR ndP hp hu k⟩
  ·obtain⟨c,e⟩:=qU (n:=s.heap.objs.size+1) k
   refine .inr ⟨.inl k,c,e,?_⟩
   have q:=x.cell y c e
   rw [nU ndP hp hu (by show scope.names.lookup y≠_;rw [k];decide)] at q
   exact q
 ·exact e0.hok.fresh (Nat.le_of_lt (x.above y c (PySem.mem_of_lookup h)))
 ·unfold eV
  show _=N.length
  rw [List.length_append,List.length_map,List.length_replicate]
  omega
theorem AV {CX:pG} {P:Program} {w:World} {K:Fg} {mg:Str->Option Value} {base:Heap} {k:Nat} {f:Addr} {name qual:Str} {params:Arguments} {body:List Stmt} {scope:Scope} {dV kV doc pm cdv ct oc:Value} {an od:Option Addr}
  {osl:Array (Option Value)} {N ps:List Str} {sp:Sp} (lk:K.lookup f=some ⟨oc,od,.func (PySem.W.fnOf name qual params body scope dV kV doc pm an cdv ct),osl⟩) (hcd:PySem.W.codeIn K cdv qual=true) (S:aO N ps scope)
  (len:∀ vs H Q E,sp vs H Q E->vs.length=ps.length)
  (hbody:∀ (A:Around) (outer:List Env) (s:Shared) (H:Hp) (vs:List V) (Q:VK) (E:XK),dD k (A.deeper (envOfC qual scope s.heap.objs.size f cdv))->sp vs H Q E→
   ∃ t,nX (bP CX P w K mg base N qual scope f cdv A outer s H E) body t/\t { nx:=fun _ H'=>Q .non H',rt:=Q } (eV N vs) H) :
  bK P w K mg base CX (k+1) f (PySem.W.fnOf name qual params body scope dV kV doc pm an cdv ct) ps sp:=by
 refine⟨len,fun A outer s H args us vs Q E hr e0 hb r hsp=>?_⟩
 have hl:=len _ _ _ _ hsp
 have KX:K.In s.heap:=e0.mod.kin.keeps fun b o e=>(e0.bs b o e).1
 have lim:s.heap.NoLimit:=e0.mod.nolimit.keeps fun b o e=>(e0.bs b o e).1
 have hkind:∀ y∈ps.zip us,scope.names.lookup y.1=some .local∨(scope.names.lookup y.1=some .cell/\((cellsFrom (s.heap.objs.size+1) scope.names []).lookup y.1).isSome=true):=fun⟨n,v⟩ hy=>by
  rcases S.par n (List.of_mem_zip hy).1 with q | q
  ·exact .inl q
  ·exact .inr ⟨q,PySem.W.cellsFrom_some _ _ _ (.inl q)⟩
 refine codeAny_call_function hr.depth (KX _ _ lk) rfl S.co S.gen rfl (PySem.W.codeRec_of KX hcd) (hb _ _ _ _ ?_)
 refine wpAny_newFunctionEnv_cells S.kind hkind fun env he s1 x=>?_
 subst he
 refine⟨lim.keeps x.toInCall.keep,codeAny_func ?_⟩
 obtain⟨t,ht,hq⟩:=hbody A outer s H vs Q E (hr.deeper _) hsp
 have I:Inv (bP CX P w K mg base N qual scope f cdv A outer s H E) [] (eV N vs) H s1:=nG S hr.hd e0 hl r x
 refine wpAny_mono (ht [] s1 (eV N vs) H _ I hq) (fun fl s' hs=>?_) fun e s' hs=>hs
 have fin:∀ {σ':St} {H':Hp} {v:V} {u:Value},Inv (bP CX P w K mg base N qual scope f cdv A outer s H E) [] σ' H' s'->bo v u->Q v H'->CE outer P w H s Q u s':=
  fun {σ' H' v u} J rv q=>⟨v,H',J.os,J.bare,J.base,J.hok,rv,q⟩
 cases fl with
 | ret u=>
  obtain⟨v,σ',H',J,rv,q⟩:=hs
  exact fin J rv q
 | next=>
  obtain⟨σ',H',J,q⟩:=hs
  exact fin (v:=V.non) (u:=Value.none) J rfl q
 | brk=>
  obtain⟨_,_,_,q⟩:=hs
  exact False.elim q
 | cont=>
  obtain⟨_,_,_,q⟩:=hs
  exact False.elim q
end L2
namespace L2
open PySem PySem.Spec PyProof.Rows
section
variable {X:Cx} {x:Str} {p pos:Pos} {e:Expr} {es:List Expr} {t:TA} {id T:String} {r:List V->Hp->VK->Prop}
def E8 (r:List V->Hp->VK->Prop) (t:TA):TE:=fun σ H Q=>t σ H fun vs H1=>r vs H1 Q
theorem wW (hc:cU X (.builtin id) r) (hg:Gl X x) (hm:X.mg x=none) (hv:bootBuiltins x=some (.builtin id)) (ha:PA X (e :: es) t) (hn:x ≠ "__name__" := by decide) (hdb:(x == ("__debug__" : Str))=false:=by decide)
  (he:starEach (e :: es) X.env=(false,eval e X.env) :: starEach es X.env:=by rfl) (hpl:(backTo pos (starEach es X.env)).any (·.1)=false:=by rfl):PE X (.Call (.Name x p) (e :: es) [] pos) (E8 r t):=by
 intro pins s σ H Q I h
 refine wpAny_Call_Name_kw (gF I hg hm hv ?_ hn hdb)
 exact PyProof.Rows.callWith_builtin1 (cA (ha pos pins s σ H _ I h) fun us s1 ⟨vs,H1,I1,r1,q1⟩=>hc pins s1 σ H1 vs us Q I1 r1 q1) he hpl
theorem u4 (hc:cU X (.type T) r) (hg:Gl X x) (hm:X.mg x=none) (hv:bootBuiltins x=some (.type T)) (ha:PA X (e :: es) t) (hn:x ≠ "__name__" := by decide) (hdb:(x == ("__debug__" : Str))=false:=by decide)
  (he:starEach (e :: es) X.env=(false,eval e X.env) :: starEach es X.env:=by rfl) (hpl:(backTo pos (starEach es X.env)).any (·.1)=false:=by rfl):PE X (.Call (.Name x p) (e :: es) [] pos) (E8 r t):=by
 intro pins s σ H Q I h
 refine wpAny_Call_Name_kw (gF I hg hm hv ?_ hn hdb)
 exact PyProof.Rows.callWith_type1 (cA (ha pos pins s σ H _ I h) fun us s1 ⟨vs,H1,I1,r1,q1⟩=>hc pins s1 σ H1 vs us Q I1 r1 q1) he hpl
end
end L2
namespace HT
open PySem PyProof.Rows
def lexLt:List Int->List Int->Bool
 | [],[]=>false
 | [],_ :: _=>true
 | _ :: _,[]=>false
 | x :: xs,y :: ys=>if x=y then lexLt xs ys else decide (x < y)
section
open PySem.SeqAt
open PySem.AutoSeq1 (wpAny_loadPart')
open PySem.MeetsSeq PySem.MeetsSeq2 PySem.MeetsSeq3
end
section
variable {prog:Program} {w:World} {A:Around} {E:cJ} {s:Shared}
theorem cat_tup {t b:Addr} {vs ws:List Value} {Q:cJ} (ht:IsTup s.heap t vs.toArray) (hb:IsTup s.heap b ws.toArray) (hv:vs≠[])
  (h1:ws=[]->Q (.ref t) s) (h2:ws≠[]->Q (.ref s.heap.objs.size) { s with heap:=s.heap.push { cls:=.type "tuple", data:=.seq (vs++ws).toArray } })
  (hsz:vs.length+ws.length≤sizeLine):wpAny (model prog w) A (binaryOp .Add (.ref t) (.ref b)) Q E s:=by
 obtain⟨⟨cls,dd,data,sl⟩,ho,hc,n,hd⟩:=id ht
 obtain⟨⟨cls2,dd2,data2,sl2⟩,ho2,hc2,n2,hd2⟩:=id hb
 simp only at hc hd hc2 hd2
 subst hc hd hc2 hd2
 have e:vs.toArray++ws.toArray=(vs++ws).toArray:=by simp
 by_cases hw:ws=[]
 ·exact concat_meets ⟨_,ho,rfl⟩ ⟨_,ho2,rfl⟩ noFill_tuple_add seq_tuple_add PySem.F.slot_tuple_add PySem.F.entry_tuple_add (PySem.F.args_tuple_add_2 _ _)
   (tuple_addW1 t b vs.toArray ws.toArray n n2 dd dd2 sl sl2 (by simpa using hv) (by simp [hw])) ⟨ho,ho2,h1 hw⟩
 ·refine concat_meets ⟨_,ho,rfl⟩ ⟨_,ho2,rfl⟩ noFill_tuple_add seq_tuple_add PySem.F.slot_tuple_add PySem.F.entry_tuple_add (PySem.F.args_tuple_add_2 _ _)
   (tuple_addW2 t b vs.toArray ws.toArray n n2 dd dd2 sl sl2 (by simpa using hv) (by simpa using hw) (by rw [List.size_toArray,List.size_toArray];exact hsz)) ⟨ho,ho2,?_⟩
  rw [e]
  exact h2 hw
def sIx (n d:Nat):Option Int->Nat
 | none=>d
 | some v=>if v < 0 then (v+(n:Int)).toNat else min v.toNat n
theorem sIx_none (n d:Nat):sIx n d none=d:=rfl
theorem sIx_nat (n d k:Nat):sIx n d (some (k:Int))=min k n:=by
 show (if (k:Int) < 0 then ((k:Int)+(n:Int)).toNat else min (k:Int).toNat n)=min k n
 rw [if_neg (by omega),Int.toNat_natCast]
theorem By (n d:Nat) (hd:d≤n) (o:Option Int):sIx n d o≤n:=by
 cases o with
 | none=>exact hd
 | some v=>
  show (if v < 0 then (v+(n:Int)).toNat else min v.toNat n)≤n
  by_cases hv:v < 0
  ·rw [if_pos hv];omega
  ·rw [if_neg hv];exact Nat.min_le_right _ _
theorem uq (v:Int) (n d:Nat):(if v < 0 then max (v+(n:Int)) 0 else min v (n:Int))=((sIx n d (some v):Nat):Int):=by
 show (if v < 0 then max (v+(n:Int)) 0 else min v (n:Int))=(((if v < 0 then (v+(n:Int)).toNat else min v.toNat n):Nat):Int)
 by_cases hv:v < 0
 ·simp only [if_pos hv];omega
 ·simp only [if_neg hv];omega
theorem sO (lo hi:Option Int) (n:Nat):Builtin.Slice.sliceAdjust lo hi 1 (n:Int)=(((sIx n 0 lo:Nat):Int),((sIx n n hi:Nat):Int)):=by
 have h1:¬ ((1:Int) < 0):=by omega
 unfold Builtin.Slice.sliceAdjust
 simp only [h1,if_false]
 refine Prod.ext ?_ ?_
 ·cases lo with
  | none=>rfl
  | some v=>exact uq v n 0
 ·cases hi with
  | none=>rfl
  | some v=>exact uq v n n
theorem sd (i j:Nat):Builtin.Slice.slicePlaces (i:Int) (j:Int) 1=j - i:=by
 unfold Builtin.Slice.slicePlaces
 have h1:(1:Int) > 0:=by omega
 simp only [h1,if_true,Int.ediv_one]
 split <;> omega
theorem iF {v:Value} {o:Option Int} {Q:Option Int->Shared->Prop} (p:IsPart v o) (h:Q o s):wpAny (model prog w) A (Builtin.Slice.slicePartIndex v) Q E s:=by
 cases p with
 | none=>exact slicePart_none h
 | int i t=>exact slicePart_int h
theorem fF {sl:Addr} {vl vu:Value} {lo hi:Option Int} {n:Nat} {Q:Int×Int×Nat->Shared->Prop} (hs:s.heap.IsSliceOf sl vl vu .none) (pl:IsPart vl lo) (pu:IsPart vu hi)
  (h:Q (((sIx n 0 lo:Nat):Int),1,sIx n n hi - sIx n 0 lo) s):wpAny (model prog w) A (Builtin.Slice.sliceApplied (.ref sl) (pure (n:Int))) Q E s:=by
 obtain⟨os,hos,hcs,hds⟩:=id hs
 unfold Builtin.Slice.sliceApplied Builtin.Slice.sliceFields
 refine wpAny_bind (wpAny_bind (wpAny_field hos hds (x:=vl) rfl (wpAny_bind (wpAny_field hos hds (x:=vu) rfl (wpAny_bind (wpAny_field hos hds (x:=.none) rfl (wpAny_pure ?_)))))))
 refine wpAny_bind (slicePart_none ?_)
 show wpAny _ _ (if ((1:Int) == 0)=true then _ else _) _ _ s
 rw [if_neg (by decide)]
 refine wpAny_bind (iF pl (wpAny_bind (iF pu (wpAny_bind (wpAny_pure ?_)))))
 show wpAny _ _ (match Builtin.Slice.sliceAdjust lo hi 1 (n:Int) with | (lo,hi)=>pure (lo,(1:Int),Builtin.Slice.slicePlaces lo hi 1)) _ _ s
 rw [sO lo hi n]
 show wpAny _ _ (pure (((sIx n 0 lo:Nat):Int),(1:Int),Builtin.Slice.slicePlaces ((sIx n 0 lo:Nat):Int) ((sIx n n hi:Nat):Int) 1)) _ _ s
 rw [sd]
 exact wpAny_pure h
theorem wL (xs:Array Value) (i k:Nat):((List.range k).filterMap fun (m:Nat)=>xs[((i:Int)+(m:Int) * 1).toNat]?).toArray=((xs.toList.drop i).take k).toArray:=by
 have e:(fun (m:Nat)=>xs[((i:Int)+(m:Int) * 1).toNat]?)=fun m=>xs[i+m]?:=by
  funext m
  have:((i:Int)+(m:Int) * 1).toNat=i+m:=by omega
  rw [this]
 rw [e]
 have:=pick_run xs i k
 rw [List.filterMap_map] at this
 have e2:((fun x=>xs[x]?) ∘ fun x=>i+x)=fun m=>xs[i+m]?:=rfl
 rw [e2] at this
 rw [this]
theorem getItem_tuple_cut {t sl:Addr} {items:Array Value} {vl vu:Value} {lo hi:Option Int} {Q:cJ} (ht:IsTup s.heap t items) (hs:s.heap.IsSliceOf sl vl vu .none) (pl:IsPart vl lo) (pu:IsPart vu hi)
  (hw:¬ (sIx items.size 0 lo=0/\sIx items.size items.size hi=items.size))
  (h:Q (.ref s.heap.objs.size) { s with heap:=s.heap.push { cls:=.type "tuple", data:=.seq ((items.toList.drop (sIx items.size 0 lo)).take (sIx items.size items.size hi - sIx items.size 0 lo)).toArray } })
  (hsz:items.size≤sizeLine):wpAny (model prog w) A (getItem (.ref t) (.ref sl)) Q E s:=by
 have htake:sizeOk (.seq ((items.toList.drop (sIx items.size 0 lo)).take (sIx items.size items.size hi - sIx items.size 0 lo)).toArray):=by
  show ((items.toList.drop (sIx items.size 0 lo)).take (sIx items.size items.size hi - sIx items.size 0 lo)).toArray.size≤sizeLine
  rw [List.size_toArray,List.length_take,List.length_drop,Array.length_toList]
  omega
 have hj:sIx items.size items.size hi≤items.size:=By _ _ (Nat.le_refl _) hi
 obtain⟨os,hos,hcs,hds⟩:=id hs
 have hTs:s.TypeIs (.ref sl) "slice" := ⟨os,hos,hcs⟩
 unfold getItem
 try with_reducible refine wpAny_holding ?_
 first | refine wpAny_bind (wpAny_pure ?_) | skip
 refine wpAny_bind (wpAny_sequenceKey ht.typeIs (by decide) ?_)
 refine wpAny_bind (wpAny_callSpecial?_slot (name:=Str.ofString "__getitem__") ht.typeIs PyProof.Rows.slot_tuple_getitem
  (wpAny_call_entry PyProof.Rows.slot_tuple_getitem ht.typeIs entry_tuple_getitem ?_ (args_tuple_getitem _ _)))
 show wpAny _ _ (Builtin.Tuple.tupleItemsOf (.ref t) >>= _) _ _ s
 refine wpAny_bind (tupleItemsOf_ ht ?_)
 refine wpAny_bind (wpAny_typeOf hTs ?_)
 rw [if_pos (by decide)]
 refine wpAny_bind (fF hs pl pu ?_)
 have hno:¬ ((((sIx items.size 0 lo:Nat):Int) == 0 && (1:Int) == 1 && (sIx items.size items.size hi - sIx items.size 0 lo) == items.size)=true):=by
  intro q
  rw [Bool.and_eq_true,Bool.and_eq_true] at q
  have q1:((sIx items.size 0 lo:Nat):Int)=0:=eq_of_beq q.1.1
  have q2:sIx items.size items.size hi - sIx items.size 0 lo=items.size:=eq_of_beq q.2
  exact hw ⟨by omega,by omega⟩
 show wpAny _ _ (if (((sIx items.size 0 lo:Nat):Int) == 0 && (1:Int) == 1 && (sIx items.size items.size hi - sIx items.size 0 lo) == items.size)=true then _ else _) _ _ s
 rw [if_neg hno,wL]
 first
  | exact wpAny_bind (m:=Builtin.Tuple.tupleExact _) (wpAny_newObj_type (wpAny_pure ⟨_,rfl,wpAny_pure h⟩) htake)
  | exact wpAny_bind (m:=Builtin.Tuple.tupleExact _) (wpAny_newObj_type (wpAny_bind (wpAny_pure (wpAny_pure ⟨_,rfl,wpAny_pure h⟩))) htake)
  | exact wpAny_bind (wpAny_bind (m:=Builtin.Tuple.tupleExact _) (wpAny_newObj_type (wpAny_pure (wpAny_pure ⟨_,rfl,wpAny_pure h⟩)) htake))
  | exact wpAny_bind (wpAny_bind (m:=Builtin.Tuple.tupleExact _) (wpAny_newObj_type (wpAny_pure ⟨_,rfl,wpAny_pure h⟩) htake))
end
end HT
namespace L2
open PySem PySem.Spec PyProof.Rows
abbrev TO:=St->Hp->(Option Int->Hp->Prop)->Prop
def PO (X:Cx) (e:Option Expr) (t:TO):Prop:=
 ∀ (pins:cf) (s:Shared) (σ:St) (H:Hp) (Q:Option Int->Hp->Prop),Inv X pins σ H s->t σ H Q→
  wpAny (model X.prog X.w) X.A (evalPart e X.env) (fun u s'=>∃ o H',Inv X pins σ H' s'/\IsPart u o/\Q o H') X.xe s
def tq:TO:=fun _ H Q=>Q none H
def At (t:TE):TO:=fun σ H Q=>t σ H fun x H1=>∃ i,x=.int i/\Q (some i) H1
section
variable {X:Cx} {e:Expr} {te:TE} {lo hi:Option Expr} {tl th:TO} {pos p2:Pos}
theorem zg:PO X none tq:=by
 intro pins s σ H Q I h
 rw [evalPart_none]
 exact wpAny_pure ⟨none,H,I,.none,h⟩
theorem zf (h:PE X e te):PO X (some e) (At te):=by
 intro pins s σ H Q I hw
 rw [evalPart_some]
 refine cA (h pins s σ H _ I hw) fun u s1 ⟨x,H1,I1,r1,q1⟩=>?_
 obtain⟨i,rfl,q⟩:=q1
 obtain⟨t,rfl⟩:=r1
 exact⟨some i,H1,I1,.int i t,q⟩
def vH (X:Cx) (r:V->Option Int->Option Int->Hp->VK->Prop):Prop:=
 ∀ (pins:cf) (s:Shared) (σ:St) (H:Hp) (x:V) (v vl vu:Value) (lo hi:Option Int) (sl:Addr) (Q:VK),Inv X pins σ H s->bo x v->s.heap.IsSliceOf sl vl vu .none->IsPart vl lo->IsPart vu hi->r x lo hi H Q→
  ∃ T id,typeLookup (.type T) "__getitem__" = pure (some (.builtin id))/\s.TypeIs v T/\wpAny (model X.prog X.w) X.A (getItem v (.ref sl)) (EP X pins σ Q) X.xe s
theorem vH.or {r r':V->Option Int->Option Int->Hp->VK->Prop} (h:vH X r) (h':vH X r'):vH X (fun x lo hi H Q=>r x lo hi H Q∨r' x lo hi H Q):=by
 intro pins s σ H x v vl vu lo hi sl Q I rx hs pl pu q
 rcases q with q | q
 ·exact h pins s σ H x v vl vu lo hi sl Q I rx hs pl pu q
 ·exact h' pins s σ H x v vl vu lo hi sl Q I rx hs pl pu q
def Gs (r:V->Option Int->Option Int->Hp->VK->Prop) (te:TE) (tl th:TO):TE:=fun σ H Q=>te σ H fun x H1=>tl σ H1 fun l H2=>th σ H2 fun u H3=>r x l u H3 Q
theorem wP {r:V->Option Int->Option Int->Hp->VK->Prop} (hr:vH X r) (he:PE X e te) (hl:PO X lo tl) (hu:PO X hi th):PE X (.Subscript e (.Slice lo hi none p2) pos) (Gs r te tl th):=by
 intro pins s σ H Q I h
 refine Subscript_ (cA (he pins s σ H _ I h) fun v s1 ⟨x,H1,I1,r1,q1⟩=>?_)
 refine wpAny_Slice (cA (hl pins s1 σ H1 _ I1 q1) fun vl s2 ⟨l,H2,I2,pl,q2⟩=>cA (hu pins s2 σ H2 _ I2 q2) fun vu s3 ⟨u,H3,I3,pu,q3⟩=>?_)
 rw [evalPart_none]
 refine wpAny_pure ?_
 have I4:Inv X pins σ H3 { s3 with heap:=s3.heap.push { cls:=.type "slice", data:=.fields #[vl,vu,.none] } }:=I3.kept (t':=s3.toks) fun b ob q=>Heap.get?_push_of_some _ q
 obtain⟨T,id,hT,ht,hg⟩:=hr pins { s3 with heap:=s3.heap.push { cls:=.type "slice", data:=.fields #[vl,vu,.none] } } σ H3 x v vl vu l u s3.heap.objs.size Q I4 r1 (Heap.IsSliceOf.new ..) pl pu q3
 show wpAny (model X.prog X.w) X.A (subscriptTail e (.Slice lo hi none p2) v (.ref s3.heap.objs.size)) (EP X pins σ Q) X.xe { s3 with heap:=s3.heap.push { cls:=.type "slice", data:=.fields #[vl,vu,.none] } }
 exact tail_any (ops:=[.ref s3.heap.objs.size,v]) ht hT hg (by with_unfolding_all rfl)
def dY (xs:List V) (lo hi:Option Int):List V:=(xs.drop (HT.sIx xs.length 0 lo)).take (HT.sIx xs.length xs.length hi - HT.sIx xs.length 0 lo)
theorem jP (xs:List V) (lo hi:Option Int):(dY xs lo hi).length≤xs.length:=by
 unfold dY
 rw [List.length_take,List.length_drop]
 omega
def DY (K:Fg):V->Option Int->Option Int->Hp->VK->Prop:=fun x lo hi H Q=>∃ a xs,x=.ref a/\aZ K H a xs∧
 ¬ (HT.sIx xs.length 0 lo=0/\HT.sIx xs.length xs.length hi=xs.length)/\∀ p,H p=none->Q (.ref p) (upd H p (.tup (dY xs lo hi)))
theorem Be:vH X (DY X.K):=by
 intro pins s σ H x v vl vu lo hi sl Q I rx hs pl pu h
 obtain⟨a,xs,rfl,hx,hw,q⟩:=h
 cases rx
 obtain⟨its,r,ht,hz⟩:=I.tuple hx
 have hlen:its.toArray.size=xs.length:=by rw [List.size_toArray];exact r.length.symm
 refine⟨"tuple", _,PyProof.Rows.slot_tuple_getitem.lookup,ht.typeIs,?_⟩
 refine HT.getItem_tuple_cut ht hs pl pu (by rw [hlen];exact hw) ?_ (by rw [hlen];exact hz)
 rw [hlen]
 refine⟨.ref s.heap.objs.size,_,I.laid (t':=s.toks) (o:=.tup (dY xs lo hi)) (fun b ob q=>Heap.get?_push_of_some _ q) (Nat.le_refl _) ?_,rfl,q _ (I.hok.fresh (Nat.le_refl _))⟩
 exact⟨Nat.le_trans (jP xs lo hi) hz,_,(r.drop (HT.sIx xs.length 0 lo)).take (HT.sIx xs.length xs.length hi - HT.sIx xs.length 0 lo),IsTup.new _ _⟩
def Hr (K:Fg):R2:=fun x y H Q=>∃ a b ns ms,x=.ref a/\y=.ref b/\aZ K H a (ns.map V.int)/\aZ K H b (ms.map V.int)/\Q (.bl (HT.lexLt ns ms)) H
def Ed (K:Fg):R2:=fun x y H Q=>∃ a b xs ys,x=.ref a/\y=.ref b/\aZ K H a xs/\aZ K H b ys/\xs≠[]/\xs.length+ys.length≤sizeLine∧
 (ys=[]->Q (.ref a) H)/\(ys≠[]->∀ p,H p=none->Q (.ref p) (upd H p (.tup (xs++ys))))
theorem bf.nil_iff {xs:List V} {us:List Value} (r:bf xs us):us=[]↔xs=[]:=by
 cases r with
 | nil=>simp
 | cons _ _=>simp
theorem zy:fB X (binaryOp .Add) (Ed X.K):=by
 intro pins s σ H x y v u Q I rx ry h
 obtain⟨a,b,xs,ys,rfl,rfl,ha,hb,hx,hz,q1,q2⟩:=h
 cases rx
 cases ry
 obtain⟨its,r1,p1,_⟩:=I.tuple ha
 obtain⟨its2,r2,p2,_⟩:=I.tuple hb
 refine HT.cat_tup p1 p2 (fun z=>hx (r1.nil_iff.mp z)) (fun z=>⟨.ref a,H,I,rfl,q1 (r2.nil_iff.mp z)⟩) (fun z=>?_) (by rw [← r1.length,← r2.length];exact hz)
 refine⟨.ref s.heap.objs.size,_,I.laid (t':=s.toks) (o:=.tup (xs++ys)) (fun b ob q=>Heap.get?_push_of_some _ q) (Nat.le_refl _) ?_,rfl,q2 (fun w=>z (r2.nil_iff.mpr w)) _ (I.hok.fresh (Nat.le_refl _))⟩
 exact⟨by rw [List.length_append];exact hz,_,r1.append r2,IsTup.new _ _⟩
end
end L2
namespace L2
open PySem PySem.Spec PyProof.Rows
def zP (n:Nat) (i:Int):Option Nat:=if 0≤i then (if i < n then some i.toNat else none) else if -(n:Int)≤i then some (i+n).toNat else none
def jm {α:Type} (xs:List α) (i:Int):Option α:=(zP xs.length i).bind fun j=>xs[j]?
theorem tV {n:Nat} {i:Int} {j:Nat} (h:zP n i=some j):seqIndex? i n=some j/\j < n/\-(n:Int)≤i/\i < n:=by
 unfold zP at h
 by_cases h0:0≤i
 ·rw [if_pos h0] at h
  by_cases h1:i < n
  ·rw [if_pos h1] at h
   have e:i.toNat=j:=Option.some.inj h
   exact⟨by rw [seqIndex_of h0 h1,e],by omega,by omega,h1⟩
  ·rw [if_neg h1] at h;cases h
 ·rw [if_neg h0] at h
  by_cases h1:-(n:Int)≤i
  ·rw [if_pos h1] at h
   have e:(i+n).toNat=j:=Option.some.inj h
   exact⟨by rw [seqIndex_neg (by omega) h1,e],by omega,h1,by omega⟩
  ·rw [if_neg h1] at h;cases h
theorem ut {α:Type} {xs:List α} {i:Int} {v:α} (h:jm xs i=some v):∃ j,seqIndex? i xs.length=some j/\xs[j]?=some v/\j < xs.length/\-(xs.length:Int)≤i/\i < xs.length:=by
 unfold jm at h
 cases e:zP xs.length i with
 | none=>rw [e] at h;cases h
 | some j=>
  rw [e] at h
  obtain⟨h1,h2,h3,h4⟩:=tV e
  exact⟨j,h1,h,h2,h3,h4⟩
theorem bv {α:Type} {xs:List α} {j:Nat} {v:α} (h:xs[j]?=some v):jm xs (j:Int)=some v:=by
 have hj:j < xs.length:=(List.getElem?_eq_some_iff.mp h).1
 have e:zP xs.length (j:Int)=some j:=by
  unfold zP
  rw [if_pos (by omega),if_pos (by omega)];simp
 unfold jm;rw [e];exact h
theorem qW {α:Type} (xs:List α) (v:α):jm (xs++[v]) (-1)=some v:=by
 have hl:(xs++[v]).length=xs.length+1:=by simp
 have e:zP (xs++[v]).length (-1)=some xs.length:=by
  unfold zP
  rw [hl,if_neg (by decide),if_pos (by omega)]
  congr 1
  omega
 unfold jm
 rw [e]
 show (xs++[v])[xs.length]?=some v
 simp
def pF (b:Expr):Prop:=∀ o i,subscripted b false o i=operate [o,i] (getItem o i)
def Do (X:Cx) (r:R2):Prop:=
 ∀ (value slice:Expr) (pins:cf) (s:Shared) (σ:St) (H:Hp) (x y:V) (v u:Value) (Q:VK),Inv X pins σ H s->bo x v->bo y u->r x y H Q→
  subscripted slice false v u=operate [v,u] (getItem v u)->wpAny (model X.prog X.w) X.A (subscriptTail value slice v u) (EP X pins σ Q) X.xe s
def GX (X:Cx) (id:String) (r:V->List V->Hp->VK->Prop):Prop:=
 ∀ (pins:cf) (s:Shared) (σ:St) (H:Hp) (x:V) (xs:List V) (v:Value) (us:List Value) (Q:VK),Inv X pins σ H s->bo x v->bf xs us->r x xs H Q→
  wpAny (model X.prog X.w) X.A (call (.builtin id) (v :: us)) (EP X pins σ Q) X.xe s
section
variable {X:Cx} {a b:Expr} {ta tb:TE} {pos:Pos}
theorem El {r:R2} (hr:Do X r) (ha:PE X a ta) (hb:PE X b tb) (hs:pF b):PE X (.Subscript a b pos) (yG r ta tb):=by
 intro pins s σ H Q I h
 exact Subscript_ (Dd ha hb I h fun v u s2 x y H2 I2 rx ry q=>hr a b pins s2 σ H2 x y v u Q I2 rx ry q (hs _ _))
def BD (K:Fg):R2:=fun x y H Q=>∃ p xs i v,x=.ref p/\y=.int i/\bj K H p xs/\jm xs i=some v/\Q v H
def BC (K:Fg):R2:=fun x y H Q=>∃ p xs i v,x=.ref p/\y=.int i/\aZ K H p xs/\jm xs i=some v/\Q v H
def FR:R2:=fun x y H Q=>∃ z i c,x=.str z/\y=.int i/\z.length≤sizeLine/\jm z.cps.toList i=some c/\Q (.str ⟨#[c]⟩) H
theorem bH:Do X (BD X.K):=by
 intro value slice pins s σ H x y v u Q I rx ry h hs
 obtain⟨p,xs,i,z,rfl,rfl,hq,he,q⟩:=h
 cases rx
 obtain⟨t,rfl⟩:=ry
 obtain⟨its,r,pl,hz⟩:=I.list hq
 obtain⟨j,h1,h2,h3,h4,h5⟩:=ut he
 obtain⟨w,ew,rw'⟩:=r.get h2
 have hl:=r.length
 have hn:=o4
 have fin:EP X pins σ Q w s:=⟨z,H,I,rw',q⟩
 by_cases h0:0≤i
 ·have hj:i.toNat=j:=by
   rw [seqIndex_of h0 h5] at h1
   exact Option.some.inj h1
  exact item_listR pl.isList h0 (by omega) (by rw [hj];simpa using ew) fin hs
 ·have hj:(i+(its.toArray.size:Int)).toNat=j:=by
   rw [seqIndex_neg (by omega) h4] at h1
   rw [List.size_toArray,← hl]
   exact Option.some.inj h1
  exact subscriptTail_builtinR (x:=w) pl.isList.typeIs slot_list_getitem.lookup
   (wpAny_getItem_list_neg (Q:=fun r s'=>r=w/\EP X pins σ Q r s') pl.isList (by omega) (by rw [List.size_toArray] <;> omega) (by omega) (by rw [hj];simpa using ew) ⟨rfl,fin⟩) hs
theorem ay:Do X (BC X.K):=by
 intro value slice pins s σ H x y v u Q I rx ry h hs
 obtain⟨p,xs,i,z,rfl,rfl,hq,he,q⟩:=h
 cases rx
 obtain⟨t,rfl⟩:=ry
 obtain⟨its,r,pl,hz⟩:=I.tuple hq
 obtain⟨j,h1,h2,h3,h4,h5⟩:=ut he
 obtain⟨w,ew,rw'⟩:=r.get h2
 have hl:=r.length
 have hn:=o4
 have fin:EP X pins σ Q w s:=⟨z,H,I,rw',q⟩
 exact subscriptTail_builtinR (x:=w) pl.typeIs slot_tuple_getitem.lookup
  (getItem_tuple (j:=j) (Q:=fun r s'=>r=w/\EP X pins σ Q r s') pl (by omega) (by omega) (by rw [List.size_toArray,← hl];exact h1) (by simpa using ew) ⟨rfl,fin⟩) hs
def IB (K:Fg):R2:=fun x y H Q=>BD K x y H Q∨BC K x y H Q∨FR x y H Q
theorem sq (its:List Value) (n j:Nat) (u:Value):Obj.mapSeq (·.setIfInBounds j u) { cls:=.type "list", data:=.seq its.toArray n }={ cls:=.type "list", data:=.seq (its.set j u).toArray n }:=by
 simp [Obj.mapSeq]
theorem Inv.lst {pins:cf} {σ:St} {H:Hp} {s:Shared} {p:Addr} {xs:List V} (I:Inv X pins σ H s) (h:H p=some (.lst xs)) :
  ∃ (its:List Value) (n:Nat),bf xs its/\s.heap.get? p=some { cls:=.type "list", data:=.seq its.toArray n }/\xs.length≤sizeLine:=by
 obtain⟨z,its,n,r,e⟩:=I.hok p _ h
 exact⟨its,n,r,e,z⟩
theorem Inv.lstUpd {pins:cf} {σ:St} {H:Hp} {s:Shared} {p:Addr} {xs ys:List V} {its its':List Value} {n n':Nat} {f:Obj->Obj} (I:Inv X pins σ H s) (h:H p=some (.lst xs))
  (ho:s.heap.get? p=some { cls:=.type "list", data:=.seq its.toArray n }) (hf:f { cls:=.type "list", data:=.seq its.toArray n }={ cls:=.type "list", data:=.seq its'.toArray n' }) (r:bf ys its') (hz:ys.length≤sizeLine) (t:Nat) :
  Inv X pins σ (upd H p (.lst ys)) { s with heap:=s.heap.update p f,toks:=t }:=by
 have e:(s.heap.update p f).get? p=some { cls:=.type "list", data:=.seq its'.toArray n' }:=by
  rw [Heap.get?_update_self f ho (by rw [hf] <;> rfl),hf]
 refine I.write (x:=p) (e:=p) (by rw [h];trivial) (.inl rfl) (fun b u hb q=>(Heap.get?_update_other _ _ (Ne.symm hb)).trans q) ⟨_,e⟩ ?_
 exact⟨hz,its',n',r,e⟩
def DZ:V->V->V->Hp->(Hp->Prop)->Prop:=fun o i v H Q=>∃ p xs k j,o=.ref p/\i=.int k/\H p=some (.lst xs)/\zP xs.length k=some j/\Q (upd H p (.lst (xs.set j v)))
theorem kB:Dk X DZ:=by
 intro pins s σ H o i v ov iv u Q I ro ri rv h
 obtain⟨p,xs,k,j,rfl,rfl,hp,hj,q⟩:=h
 cases ro
 obtain⟨t,rfl⟩:=ri
 obtain⟨its,n,r,ho,hz⟩:=I.lst hp
 obtain⟨h1,h2,h3,h4⟩:=tV hj
 have hl:=r.length
 have hn:=o4
 have I':Inv X pins σ (upd H p (.lst (xs.set j v))) { s with heap:=s.heap.update p (Obj.mapSeq (·.setIfInBounds j u)) }:=
  I.lstUpd hp ho (sq its n j u) (r.set rv j) (by rw [List.length_set];exact hz) s.toks
 by_cases h0:0≤k
 ·have hk:k.toNat=j:=by
   rw [seqIndex_of h0 h4] at h1
   exact Option.some.inj h1
  exact PySem.W.ki_setAt ho h0 (by omega) (by rw [List.size_toArray,← hl];exact h4) (by rw [hk];exact⟨_,I',q⟩)
 ·have hk:(k+(its.toArray.size:Int)).toNat=j:=by
   rw [seqIndex_neg (by omega) h3] at h1
   rw [List.size_toArray,← hl]
   exact Option.some.inj h1
  exact PySem.W.ki_setBack ho (by omega) (by rw [List.size_toArray,← hl];exact h3) (by omega) (by rw [hk];exact⟨_,I',q⟩)
theorem oC (lo hi:Option Int) (n:Nat):(sliceBounds lo hi none n).1=((HT.sIx n 0 lo:Nat):Int)/\(sliceBounds lo hi none n).2.1=((HT.sIx n n hi:Nat):Int)/\(sliceBounds lo hi none n).2.2=1:=by
 refine⟨?_,?_,rfl⟩
 ·cases lo with
  | none=>simp [sliceBounds,HT.sIx]
  | some i=>
   simp only [sliceBounds,HT.sIx,Option.getD_none,show (1:Int) > 0 by decide,if_true]
   by_cases h:i < 0
   ·simp only [h,if_true] <;> omega
   ·simp only [h,if_false] <;> omega
 ·cases hi with
  | none=>simp [sliceBounds,HT.sIx]
  | some i=>
   simp only [sliceBounds,HT.sIx,Option.getD_none,show (1:Int) > 0 by decide,if_true]
   by_cases h:i < 0
   ·simp only [h,if_true] <;> omega
   ·simp only [h,if_false] <;> omega
theorem lQ (its:List Value) (lo hi:Option Int):slicePick its.toArray lo hi none=((its.drop (HT.sIx its.length 0 lo)).take (HT.sIx its.length its.length hi - HT.sIx its.length 0 lo)).toArray:=by
 obtain⟨h1,h2,h3⟩:=oC lo hi its.toArray.size
 unfold slicePick
 rw [h1,h2,h3]
 simp only [sliceRange_one,pick_run,List.size_toArray] <;> rfl
def FO (K:Fg):V->Option Int->Option Int->Hp->VK->Prop:=fun x lo hi H Q=>∃ a xs,x=.ref a/\bj K H a xs/\∀ p,H p=none->Q (.ref p) (upd H p (.lst (dY xs lo hi)))
theorem gU:vH X (FO X.K):=by
 intro pins s σ H x v vl vu lo hi sl Q I rx hs pl pu h
 obtain⟨a,xs,rfl,hx,q⟩:=h
 cases rx
 obtain⟨its,r,ht,hz⟩:=I.list hx
 have hlen:=r.length
 refine⟨"list", _,slot_list_getitem.lookup,ht.isList.typeIs,?_⟩
 refine wpAny_getItem_list_slice ht.isList hs pl pu .none (by simp) ?_ (by rw [List.size_toArray] <;> omega)
 rw [lQ,← hlen]
 refine⟨.ref s.heap.objs.size,_,I.laid (t':=s.toks) (o:=.lst (dY xs lo hi)) (fun b ob q=>Heap.get?_push_of_some _ q) (Nat.le_refl _) ?_,rfl,q _ (I.hok.fresh (Nat.le_refl _))⟩
 exact⟨Nat.le_trans (jP xs lo hi) hz,_,0,(r.drop (HT.sIx xs.length 0 lo)).take (HT.sIx xs.length xs.length hi - HT.sIx xs.length 0 lo),Heap.get?_push_size _ rfl⟩
def iz:V->Bool
 | .non=>true
 | .bl _=>true
 | .int _=>true
 | .str _=>true
 | _=>false
def AW:V->V->Bool
 | .non,.non=>true
 | .bl a,.bl b=>a == b
 | .bl a,.int b=>(if a then 1 else 0) == b
 | .int a,.bl b=>a == (if b then 1 else 0)
 | .int a,.int b=>a == b
 | .str a,.str b=>a == b
 | _,_=>false
theorem C7 {A:Around} {s:Shared} {y x:V} {u v:Value} (ry:bo y u) (rx:bo x v) (fy:iz y=true) (fx:iz x=true):SeqAt.EqAt A s u v (AW y x):=by
 cases y with
 | non=>
  cases ry
  cases x with
  | non=>cases rx;exact SeqAt.EqAt.same _
  | bl b=>cases rx;exact SeqAt.EqAt.none_bool b
  | int b=>obtain⟨t,rfl⟩:=rx;exact SeqAt.EqAt.none_int b t
  | str b=>obtain⟨t,rfl⟩:=rx;exact SeqAt.EqAt.none_str b t
  | _=>exact absurd (show false=true from fx) Bool.false_ne_true
 | bl a=>
  cases ry
  cases x with
  | non=>cases rx;exact SeqAt.EqAt.bool_none a
  | bl b=>cases rx;exact SeqAt.EqAt.bool_bool a b
  | int b=>obtain⟨t,rfl⟩:=rx;exact SeqAt.EqAt.bool_int a b t
  | str b=>obtain⟨t,rfl⟩:=rx;exact SeqAt.EqAt.bool_str a b t
  | _=>exact absurd (show false=true from fx) Bool.false_ne_true
 | int a=>
  obtain⟨t',rfl⟩:=ry
  cases x with
  | non=>cases rx;exact SeqAt.EqAt.int_none a t'
  | bl b=>cases rx;exact SeqAt.EqAt.int_bool a t' b
  | int b=>obtain⟨t,rfl⟩:=rx;exact SeqAt.EqAt.int_int a t' b t
  | str b=>obtain⟨t,rfl⟩:=rx;exact SeqAt.EqAt.int_str a t' b t
  | _=>exact absurd (show false=true from fx) Bool.false_ne_true
 | str a=>
  obtain⟨t',rfl⟩:=ry
  cases x with
  | non=>cases rx;exact SeqAt.EqAt.str_none a t'
  | bl b=>cases rx;exact SeqAt.EqAt.str_bool a t' b
  | int b=>obtain⟨t,rfl⟩:=rx;exact SeqAt.EqAt.str_int a t' b t
  | str b=>obtain⟨t,rfl⟩:=rx;exact SeqAt.EqAt.str_str a t' b t
  | _=>exact absurd (show false=true from fx) Bool.false_ne_true
 | _=>exact absurd (show false=true from fy) Bool.false_ne_true
def sH (x:V) (u:Value):Bool:=match u with
 | .none=>AW .non x
 | .bool b=>AW (.bl b) x
 | .int i _=>AW (.int i) x
 | .str z _=>AW (.str z) x
 | _=>false
theorem xX {x y:V} {u:Value} (r:bo y u) (f:iz y=true):sH x u=AW y x:=by
 cases y with
 | non=>cases r;rfl
 | bl b=>cases r;rfl
 | int i=>obtain⟨t,rfl⟩:=r;rfl
 | str z=>obtain⟨t,rfl⟩:=r;rfl
 | _=>exact absurd (show false=true from f) Bool.false_ne_true
theorem je {x:V}:∀ {xs:List V} {us:List Value},bf xs us->xs.all iz=true->us.any (sH x)=xs.any fun y=>AW y x
 | _,_,.nil,_=>rfl
 | y :: xs,u :: us,.cons r t,f=>by
  rw [List.all_cons,Bool.and_eq_true] at f
  rw [List.any_cons,List.any_cons,xX r f.1,je t f.2]
theorem gz {A:Around} {s:Shared} {x:V} {v:Value} (rx:bo x v) (fx:iz x=true):∀ {xs:List V} {us:List Value},bf xs us->xs.all iz=true->∀ u∈us,SeqAt.EqAt A s u v (sH x u)
 | _,_,.nil,_=>fun u hu=>by cases hu
 | y :: xs,u :: us,.cons r t,f=>fun u' hu=>by
  rw [List.all_cons,Bool.and_eq_true] at f
  rcases List.mem_cons.mp hu with rfl | hu
  ·rw [xX r f.1];exact C7 r rx f.1 fx
  ·exact gz rx fx t f.2 u' hu
def sF (x:V) (xs:List V):Bool:=xs.any fun y=>AW y x
def Fp (K:Fg) (neg:Bool):R2:=fun x y H Q=>∃ p xs,y=.ref p/\(bj K H p xs∨aZ K H p xs)/\iz x=true/\xs.all iz=true/\Q (.bl (if neg then !sF x xs else sF x xs)) H
theorem nA:fB X (compareOp .In) (Fp X.K false):=by
 intro pins s σ H x y v u Q I rx ry h
 obtain⟨p,xs,rfl,hq,fx,fs,q⟩:=h
 cases ry
 rcases hq with hq | hq
 ·obtain⟨its,r,pl,hz⟩:=I.list hq
  refine SeqAt.in_listAt (sH x) pl.isList (fun w hw=>gz rx fx r fs w (by simpa using hw)) ⟨.bl _,H,I,rfl,?_⟩
  rw [show its.toArray.any (sH x)=its.any (sH x) by simp,je r fs]
  exact q
 ·obtain⟨its,r,pl,hz⟩:=I.tuple hq
  refine SeqAt.in_tupleAt (sH x) pl (fun w hw=>gz rx fx r fs w (by simpa using hw)) ⟨.bl _,H,I,rfl,?_⟩
  rw [show its.toArray.any (sH x)=its.any (sH x) by simp,je r fs]
  exact q
theorem oS:fB X (compareOp .NotIn) (Fp X.K true):=by
 intro pins s σ H x y v u Q I rx ry h
 obtain⟨p,xs,rfl,hq,fx,fs,q⟩:=h
 cases ry
 rcases hq with hq | hq
 ·obtain⟨its,r,pl,hz⟩:=I.list hq
  refine SeqAt.notIn_listAt (sH x) pl.isList (fun w hw=>gz rx fx r fs w (by simpa using hw)) ⟨.bl _,H,I,rfl,?_⟩
  rw [show its.toArray.any (sH x)=its.any (sH x) by simp,je r fs]
  exact q
 ·obtain⟨its,r,pl,hz⟩:=I.tuple hq
  refine SeqAt.notIn_tupleAt (sH x) pl (fun w hw=>gz rx fx r fs w (by simpa using hw)) ⟨.bl _,H,I,rfl,?_⟩
  rw [show its.toArray.any (sH x)=its.any (sH x) by simp,je r fs]
  exact q
theorem ar:cU X (.builtin "len") (fun xs H Q=>∃ p ys,xs=[.ref p]/\(bj X.K H p ys∨aZ X.K H p ys)/\Q (.int ys.length) H):=by
 intro pins s σ H xs us Q I r h
 obtain⟨p,ys,rfl,hq,q⟩:=h
 obtain⟨u,rfl,rx⟩:=eU r
 cases rx
 have hn:=o4
 rcases hq with hq | hq
 ·obtain⟨its,r',pl,hz⟩:=I.list hq
  have hlen:=r'.length
  exact Calls.call_len_list pl.isList (by simp only [List.size_toArray] <;> omega) ⟨.int ys.length,H,I.tok _,⟨s.toks+1,by rw [List.size_toArray,hlen]⟩,q⟩
 ·obtain⟨its,r',pl,hz⟩:=I.tuple hq
  have hlen:=r'.length
  exact len_tuple pl (by simp only [List.size_toArray] <;> omega) ⟨.int ys.length,H,I.tok _,⟨s.toks+1,by rw [List.size_toArray,hlen]⟩,q⟩
theorem dQ:cU X (.type "list") (fun xs H Q=>∃ p ys,xs=[.ref p]/\(bj X.K H p ys∨aZ X.K H p ys)/\∀ l,H l=none->Q (.ref l) (upd H l (.lst ys))):=by
 intro pins s σ H xs us Q I r h
 obtain⟨p,ys,rfl,hq,q⟩:=h
 obtain⟨u,rfl,rx⟩:=eU r
 cases rx
 have fin:∀ (its:List Value),bf ys its->ys.length≤sizeLine->∀ (h':Heap) (c':Nat),(∀ b o',s.heap.get? b=some o'->h'.get? b=some o')→
   h'.get? s.heap.objs.size=some { cls:=.type "list", dict:=none,data:=.seq its.toArray c',slots:=#[] }->EP X pins σ Q (.ref s.heap.objs.size) { s with heap:=h' }:=fun its r' hz h' c' kp e=>
  ⟨.ref s.heap.objs.size,_,I.laid (t':=s.toks) kp (Nat.le_refl _) (show ObjOk X.prog X.w _ h' _ (.lst ys) from ⟨hz,its,c',r',e⟩),rfl,q _ (I.hok.fresh (Nat.le_refl _))⟩
 rcases hq with hq | hq
 ·obtain⟨its,r',pl,hz⟩:=I.list hq
  have hlen:=r'.length
  obtain⟨o,ho,hc,n,hd⟩:=pl.isList
  exact call_list_seq p (.inl rfl) ho hc hd (fun h' c' kp e=>fin its r' hz h' c' kp e) (by simp only [List.size_toArray] <;> omega)
 ·obtain⟨its,r',pl,hz⟩:=I.tuple hq
  have hlen:=r'.length
  obtain⟨o,ho,hc,n,hd⟩:=pl
  exact call_list_seq p (.inr rfl) ho hc hd (fun h' c' kp e=>fin its r' hz h' c' kp e) (by simp only [List.size_toArray] <;> omega)
theorem br:cU X (.type "tuple") (fun xs H Q=>∃ p ys,xs=[.ref p]/\((bj X.K H p ys/\∀ l,H l=none->Q (.ref l) (upd H l (.tup ys)))∨(aZ X.K H p ys/\Q (.ref p) H))):=by
 intro pins s σ H xs us Q I r h
 obtain⟨p,ys,rfl,h⟩:=h
 obtain⟨u,rfl,rx⟩:=eU r
 cases rx
 rcases h with ⟨hq,q⟩ | ⟨hq,q⟩
 ·obtain⟨its,r',pl,hz⟩:=I.list hq
  have hlen:=r'.length
  refine call_tuple_list pl.isList (fun h' kp=>?_) (by simp only [List.size_toArray] <;> omega)
  have I1:Inv X pins σ H { s with heap:=h' }:=I.kept (t':=s.toks) kp
  have I2:Inv X pins σ (upd H h'.objs.size (.tup ys)) { s with heap:=h'.push { cls:=.type "tuple", data:=.seq its.toArray } }:=
   I1.laid (t':=s.toks) (fun b o e=>Heap.get?_push_of_some _ e) (Nat.le_refl _) (show ObjOk X.prog X.w _ _ _ (.tup ys) from ⟨hz,its,r',IsTup.new _ _⟩)
  exact⟨.ref h'.objs.size,_,I2,rfl,q _ (I1.hok.fresh (Nat.le_refl _))⟩
 ·obtain⟨its,r',pl,hz⟩:=I.tuple hq
  exact call_tuple_same pl ⟨.ref p,H,I,rfl,q⟩
def FF (K:Fg) (T:String) (x:V) (H:Hp):Prop:=match x with
 | .str _=>T = "str"
 | .int _=>T = "int"
 | .ref p=>(T = "list" /\ ∃ xs,bj K H p xs)∨(T = "tuple" /\ ∃ o,K.lookup p=some o/\o.cls=.type "tuple" /\ o.dict=none)∨
   (T = "dict" /\ ((∃ kvs,H p=some (.dK kvs))∨∃ kvs,H p=some (.dT kvs)))∨(T = "set" /\ ∃ S n,H p=some (.set S n))
 | _=>False
theorem A5 {pins:cf} {σ:St} {H:Hp} {s:Shared} {T:String} {x:V} {v:Value} (I:Inv X pins σ H s) (r:bo x v) (ty:FF X.K T x H) :
  s.TypeIs v T/\∀ a,v=.ref a->∃ ob,s.heap.get? a=some ob/\ob.dict=none:=by
 cases x with
 | str z=>
  obtain⟨t,rfl⟩:=r
  cases (show T = "str" from ty)
  exact⟨typeIs_str s z t,fun _ e=>nomatch e⟩
 | int i=>
  obtain⟨t,rfl⟩:=r
  cases (show T = "int" from ty)
  exact⟨typeIs_int s i t,fun _ e=>nomatch e⟩
 | ref p=>
  cases r
  rcases ty with ⟨rfl,xs,hq⟩ | ⟨rfl,o,hk,hc,hd⟩ | ⟨rfl,hk⟩ | ⟨rfl,S,n,hk⟩
  ·obtain⟨its,_,pl,_⟩:=I.list hq
   refine⟨pl.isList.typeIs,fun a e=>?_⟩
   cases e
   obtain⟨o,n,e,c,hd,_⟩:=pl
   exact⟨o,e,hd⟩
  ·refine⟨⟨o,I.kIn p o hk,hc⟩,fun a e=>?_⟩
   cases e
   exact⟨o,I.kIn _ o hk,hd⟩
  ·have z:∃ o,s.heap.get? p=some o/\o.ExactDict:=by
    rcases hk with ⟨kvs,hk⟩ | ⟨kvs,hk⟩
    ·obtain⟨_,_,_,_,o,_,_,e,ex,_⟩:=I.hok p _ hk
     exact⟨o,e,ex⟩
    ·obtain⟨_,_,_,_,o,_,_,e,ex,_⟩:=I.hok p _ hk
     exact⟨o,e,ex⟩
   obtain⟨o,e,ex⟩:=z
   refine⟨⟨o,e,ex.1⟩,fun a e2=>?_⟩
   cases e2
   exact⟨o,e,ex.2.1⟩
  ·obtain⟨o,_,_,_,e,ex,_⟩:=I.hok p _ hk
   refine⟨⟨o,e,ex.1⟩,fun a e2=>?_⟩
   cases e2
   exact⟨o,e,ex.2.1⟩
 | _=>exact False.elim ty
def Hh (K:Fg) (T:String) (r:V->List V->Hp->VK->Prop) (to:TE):TE:=fun σ H Q=>to σ H fun x H1=>FF K T x H1/\r x [] H1 Q
def GD (K:Fg) (T:String) (r:V->List V->Hp->VK->Prop) (to:TE) (t:TA):TE:=fun σ H Q=>to σ H fun x H1=>FF K T x H1/\t σ H1 fun xs H2=>r x xs H2 Q
variable {o e:Expr} {es:List Expr} {to:TE} {t:TA} {name:Str} {apos cpos:Pos} {T id:String} {r:V->List V->Hp->VK->Prop}
theorem Em (pa:PlainAttrs T) (slot:Slot T name id) (hty:typeOf (.builtin id)=pure (.type "method_descriptor")) (hm:GX X id r) (ho:PE X o to) (ha:PA X (e :: es) t)
  (hbase:attributeBase o name X.env (eval o X.env)=eval o X.env:=by rfl)
  (hfew:((backTo cpos (starEach (e :: es) X.env)).all (fun x=>!x.1) && (backToKw cpos (keywordEach [] X.env)).all (fun x=>x.1.isSome)
   && decide ((e :: es).length+([]:List Keyword).length+(if ([]:List Keyword).isEmpty then 0 else 1) < 30))=true:=by rfl)
  (hline:(apos.endLine == cpos.line)=true:=by rfl) (hs:starEach (e :: es) X.env=(false,eval e X.env) :: starEach es X.env:=by rfl) (hplain:(backTo cpos (starEach es X.env)).any (·.1)=false:=by rfl) :
  PE X (.Call (.Attribute o name apos) (e :: es) [] cpos) (GD X.K T r to t):=by
 intro pins s σ H Q I h
 refine wpAny_Call_method_late hbase hfew hline rfl (cA (ho pins s σ H _ I h) fun v s1 ⟨x,H1,I1,r1,ty,q1⟩=>?_)
 obtain⟨h1,h2⟩:=A5 I1 r1 ty
 refine⟨T,id,pa,slot,hty,h1,h2,?_⟩
 have hA:=ha cpos pins s1 σ H1 _ I1 q1
 rw [hs] at hA ⊢
 refine Calls.callWith_builtin (by show (false || (backTo cpos (starEach es X.env)).any (·.1))=false;rw [hplain] <;> rfl) (Calls.evalArgs_plain ?_)
 exact cA hA fun us s2 ⟨vs,H2,I2,r2,q2⟩=>hm pins s2 σ H2 x vs v us Q I2 r1 r2 q2
end
end L2
namespace L2
open PySem PySem.Spec PyProof.Rows
def GY (X:Cx) (id:String) (r:V->List V->Hp->VK->Prop):Prop:=
 ∀ (pins:cf) (s:Shared) (σ:St) (H:Hp) (x:V) (xs:List V) (v:Value) (us:List Value) (Q:VK),Inv X pins σ H s->bo x v->bf xs us->r x xs H Q→
  wpAny (model X.prog X.w) X.A (call (.builtin id) (v :: us)) (EP X pins σ Q) X.xe s
theorem bf.one:∀ {x:V} {us:List Value},bf [x] us->∃ u,us=[u]/\bo x u
 | _,_,.cons r .nil=>⟨_,rfl,r⟩
section
variable {X:Cx} {pins:cf} {σ:St} {H:Hp} {s:Shared} {l b:Addr} {xs ys zs:List V}
theorem Inv.lset {its its':List Value} {n:Nat} {f:Array Value->Array Value} {t':Nat} (I:Inv X pins σ H s) (hH:H l=some (.lst xs))
  (e:s.heap.get? l=some { cls:=.type "list", data:=.seq its.toArray n }) (hf:f its.toArray=its'.toArray) (hv:bf ys its') (hz:ys.length≤sizeLine) :
  Inv X pins σ (upd H l (.lst ys)) { s with heap:=s.heap.update l (Obj.mapSeq f),toks:=t' }:=by
 have q:=PySem.IsL.update e f
 rw [hf] at q
 refine I.write (x:=l) (e:=l) (by rw [hH];exact trivial) (.inl rfl) (fun b' u hb hu=>(Heap.get?_update_other s.heap (Obj.mapSeq f) (Ne.symm hb)).trans hu) ⟨_,q⟩ ?_
 exact⟨hz,its',_,hv,q⟩
theorem Inv.lnew {its:List Value} {t':Nat} (I:Inv X pins σ H s) (hv:bf ys its) (hz:ys.length≤sizeLine) :
  Inv X pins σ (upd H s.heap.objs.size (.lst ys)) { s with heap:=s.heap.push { cls:=.type "list", data:=.seq its.toArray },toks:=t' }:=
 I.laid (fun _ _ q=>Heap.get?_push_of_some _ q) (Nat.le_refl _) ⟨hz,its,0,hv,Heap.get?_push_size _ rfl⟩
theorem Inv.fresh (I:Inv X pins σ H s):H s.heap.objs.size=none:=I.hok.fresh (Nat.le_refl _)
theorem Inv.lstM (I:Inv X pins σ H s) (hH:H l=some (.lst xs)):xs.length≤sizeLine/\∃ (its:List Value) (n:Nat),bf xs its/\xs.length=its.length/\s.heap.get? l=some { cls:=.type "list", data:=.seq its.toArray n }:=by
 obtain⟨z,its,n,r,e⟩:=I.hok l _ hH
 exact⟨z,its,n,r,r.length,e⟩
theorem xq {n:Nat} (h:n≤sizeLine):Builtin.List.listTooLong n=false:=by
 unfold Builtin.List.listTooLong
 exact decide_eq_false (by omega)
end
section
variable {X:Cx}
def yT:V->List V->Hp->VK->Prop:=fun x vs H Q=>∃ l xs y,x=.ref l/\vs=[y]/\H l=some (.lst xs)/\xs.length < sizeLine/\Q .non (upd H l (.lst (xs++[y])))
theorem dG:GY X "list.append" yT:=by
 intro pins s σ H x vs v us Q I rx rv h
 obtain⟨l,xs,y,rfl,rfl,hH,hz,q⟩:=h
 cases rx
 obtain⟨u,rfl,ru⟩:=rv.one
 obtain⟨z,its,n,r,hl,e⟩:=I.lstM hH
 refine call_meets F.slot_list_append ⟨_,e,rfl⟩ F.entry_list_append (F.args_list_append_2 _ _) (PySem.list_append l its.toArray n u (by rw [List.size_toArray];omega)) ⟨e,?_⟩
 refine⟨.non,_,I.lset (its':=its++[u]) hH e (by simp) (r.append (.cons ru .nil)) ?_,rfl,q⟩
 rw [List.length_append,List.length_singleton]
 omega
def Fq:V->List V->Hp->VK->Prop:=fun x vs H Q=>∃ l b xs zs,x=.ref l/\vs=[.ref b]/\H l=some (.lst xs)/\H b=some (.lst zs)/\xs.length+zs.length≤sizeLine/\Q .non (upd H l (.lst (xs++zs)))
def Hn:V->List V->Hp->VK->Prop:=fun x vs H Q=>∃ l xs y,x=.ref l/\vs=[]/\H l=some (.lst xs)/\xs[xs.length - 1]?=some y/\Q y (upd H l (.lst xs.dropLast))
def FP:V->List V->Hp->VK->Prop:=fun x vs H Q=>∃ l xs i k y,x=.ref l/\vs=[.int i]/\H l=some (.lst xs)/\-(2 ^ 63)≤i/\i < 2 ^ 63/\seqIndex? i xs.length=some k/\xs[k]?=some y/\Q y (upd H l (.lst (xs.eraseIdx k)))
def D1:V->List V->Hp->VK->Prop:=fun x vs H Q=>∃ l xs,x=.ref l/\vs=[]/\H l=some (.lst xs)/\Q .non (upd H l (.lst xs.reverse))
def FV:V->List V->Hp->VK->Prop:=fun x vs H Q=>∃ l xs,x=.ref l/\vs=[]/\H l=some (.lst xs)/\Q .non (upd H l (.lst []))
def FW:R2:=fun x y H Q=>∃ l b xs zs,x=.ref l/\y=.ref b/\H l=some (.lst xs)/\H b=some (.lst zs)/\xs.length+zs.length≤sizeLine/\∀ p,H p=none->Q (.ref p) (upd H p (.lst (xs++zs)))
theorem fV:fB X (binaryOp .Add) FW:=by
 intro pins s σ H x y v u Q I rx ry h
 obtain⟨l,b,xs,zs,rfl,rfl,hH,hB,hz,q⟩:=h
 cases rx
 cases ry
 obtain⟨z,its,n,r,hl,e⟩:=I.lstM hH
 obtain⟨z2,its2,n2,r2,hl2,e2⟩:=I.lstM hB
 refine PySem.P.add_list e e2 ?_ (by rw [List.size_toArray,List.size_toArray];omega)
 have ea:its.toArray++its2.toArray=(its++its2).toArray:=by simp
 rw [ea]
 exact⟨.ref _,_,I.lnew (t':=s.toks) (r.append r2) (by rw [List.length_append];omega),rfl,q _ I.fresh⟩
def Hm:R2:=fun x y H Q=>∃ l k xs,x=.ref l/\y=.int k/\H l=some (.lst xs)/\-(2 ^ 63)≤k/\k < 2 ^ 63/\xs.length * k.toNat≤sizeLine∧
 ∀ p,H p=none->Q (.ref p) (upd H p (.lst (List.replicate k.toNat xs).flatten))
end
section
variable {prog:Program} {w:World} {A:Around} {E:cJ} {s:Shared}
end
section
variable {X:Cx}
end
end L2
namespace Att
open PySem PySem.W PySem.Calls PyProof.Rows
theorem jW {P:Params} {h:Heap}:∀ (ns:List Int) (vs:List Value),WellAll P h vs (ns.map WData.int)->IntsAre vs ns:=by
 intro ns
 induction ns with
 | nil=>
  intro vs w
  rw [List.map_nil] at w
  cases w
  exact .nil
 | cons n ns ih=>
  intro vs w
  rw [List.map_cons] at w
  cases w with
  | cons a b=>
   cases a
   exact .cons _ _ (ih _ b)
theorem uG {l:OpenLaw} {n:Nat} (hn:l.most=some n) {P:Params} {h:Heap} {args:List WData} {vals:List Value}
  (hpre:l.row.toRowW.claim.pre args=true) (hwl:WellAll P h vals args) :
  ∃ a vs ns,vals=[Value.ref a]/\args=[WData.list (ns.map WData.int)]/\h.get? a=some { cls:=.type "list", data:=.seq vs.toArray }/\IntsAre vs ns/\ns.length≤n:=by
 have hsh:WShape.hasAll [] args [.list .int]=true:=(pre_splitW hpre).1
 have hc:l.pre.holds [] { args:=args }=true:=(pre_splitW hpre).2
 obtain⟨d,r,rfl,h1,h2⟩:=hasAllW_cons hsh
 obtain rfl:=hasAllW_nil h2
 obtain⟨xs,rfl,h3⟩:=hasW_list h1
 obtain⟨ns,rfl⟩:=items_int h3
 have hlen:ns.length≤n:=by
  unfold OpenLaw.pre at hc
  have h4:(WTm.not (.lt (.lit (.int (n:Int))) (.len (.arg 0)))).holds [] { args:=[.list (ns.map .int)] }=true:=by
   have h4:=(holds_andW hc).1
   rw [hn] at h4
   exact h4
  have h5:=condW_of h4 (w_not (w_lt w_lit (w_len_list (w_arg rfl))))
  rw [List.length_map] at h5
  refine Nat.le_of_not_lt fun q=>?_
  have q':(n:Int) < ((ns.length:Nat):Int):=by omega
  first
   | (rw [decide_eq_true q'] at h5;exact absurd h5 (by decide))
   | (simp at h5;omega)
 cases hwl with
 | cons w1 w2=>
  cases w2
  cases w1 with
  | list ho hall=>exact⟨_,_,ns,rfl,rfl,ho,jW ns _ hall,hlen⟩
theorem uY (l:OpenLaw) (args:List WData):l.row.toRowW.claim.post args (.bool true) args=true:=
 postW_of (r:=l.row.toRowW) (X:=(true == true))
  (show WShape.has [] (.bool true) .bool=true by first | rfl | decide | simp [WShape.has,WShape.arms,WShape.armsAll])
  (show (WTm.eq .res (.lit (.bool true))).value [] { args:=args,res:=some (.bool true),after:=args }=some (.bool (true == true)) from w_eq_bool (w_res rfl) w_lit) rfl
theorem attach_call {l:OpenLaw} {n:Nat} {q:Program} {loose:List Str} {XP:(Str->Option Value)->Heap->Prop} {YP:World->Heap->Prop} {d:DefRec}
  (hn:l.most=some n) (hdf:d.params.defaults=[])
  (call:∀ (w:World) (s₀ s₁:Shared) (mg mb:Str->Option Value) (fa:Addr) (o:Obj) (pm cd doc:Value) (a:Addr) (vs:List Value) (ns:List Int),
   Ground q loose [] XP w s₀ mg mb s₁.heap->YP w s₁.heap→
   s₁.heap.get? fa=some o->o.data=.func (docDef d.name d.params d.body d.scope pm cd doc)->s₁.heap.CodeRec cd d.name->mg d.name=some (.ref fa)→
   s₁.heap.get? a=some { cls:=.type "list", data:=.seq vs.toArray }->IntsAre vs ns->ns.length≤n->s₁.gens=#[]→
   codeAny (model l.prog w) callerA (.call (.ref fa) ⟨[.ref a],[]⟩) (fun r s'=>r=.ok (.ret (.bool true))/\OldK s₁.heap s'.heap/\s'.os=s₁.os/\AllBare s'.gens) s₁) :
  WalkO q loose XP YP l.row.toRowW d [] (fun f vs=>PySem.call f vs):=by
 intro w s₀ s₁ mg mb G Y fa o pm cd doc dV kV ho hd hcd hD hmg hg args vals as hpre hlay hrd hwl hlo
 obtain rfl:dV=.none:=Dflts.none hD hdf
 obtain rfl:kV=.none:=Dflts.noKw hD
 obtain⟨a,vs,ns,rfl,rfl,hobj,hints,hlen⟩:=uG hn hpre hwl
 refine enter_call (codeAny_mono (call w s₀ s₁ mg mb fa o pm cd doc a vs ns G Y ho (fd_plain hd) hcd hmg hobj hints hlen hg) fun r s' hq=>?_)
 obtain⟨rfl,h2,h3,h4⟩:=hq
 exact⟨.inl ⟨.bool true,.bool true,[],rfl,fun _=>rfl,.bool true,uY l _,fun _=>⟨List.Pairwise.nil,fun _ hm=>(nomatch hm)⟩⟩,h2,h3,h4⟩
section
variable {prog:Program} {w:World} {A:Around} {E:cJ} {s:Shared} {K:Frag}
def FZ (h:Heap):Heap:={ h with objs:=#[] }
def F1 (h:Heap) (L d:Addr):cf:=(List.range h.objs.size).filterMap fun a=>if a=L∨a=d then none else (h.get? a).map fun o=>(a,o)
end
end Att
namespace L2
open PySem PySem.Spec PyProof.Rows
theorem mj:∀ {vs:List Value} {ns:List Int},IntsAre vs ns->bf (ns.map V.int) vs
 | _,_,.nil=>.nil
 | _,_,.cons n t h=>.cons ⟨t,rfl⟩ (mj h)
def Dm (H:Hp):Prop:=∀ b,H b=none∨∃ o xs,H b=some (.frz o (.lst xs))
theorem xF {P:Program} {w:World} {K:Fg} {mg mb:Str->Option Value} {CX:pG} {k:Nat} {fa a:Addr} {fd:FuncData} {x:Str} {sp:Sp} {s₁:Shared} {vs:List Value} {ns:List Int}
  (KX:K.In s₁.heap) (hns:s₁.heap.Ns mainGlobals mg) (hb:s₁.heap.Ns builtinsNs mb) (hbb:∀ x:Str,x ≠ "__name__" -> mb x=bootBuiltins x) (hlim:s₁.heap.NoLimit) (hg:s₁.gens=#[])
  (ha:s₁.heap.get? a=some { cls:=.type "list", data:=.seq vs.toArray }) (hi:IntsAre vs ns) (hl:ns.length≤sizeLine) (hr:dD k callerA)
  (F:∀ base:Heap,K.In base->base.Ns mainGlobals mg->bK P w K mg base CX k fa fd [x] sp) (hbind:∀ (s:Shared) (u:Value),BindsTo s fd ⟨[u],[]⟩ [(x,u)])
  (hsp:∀ H:Hp,Dm H->bj K H a (ns.map V.int)->sp [.ref a] H (fun v _=>v=.bl true) fun _ _ _=>False)
  (hCX:∀ H e s',CX [] H s₁ (fun _ _ _=>False) e s'->False) :
  codeAny (model P w) callerA (.call (.ref fa) ⟨[.ref a],[]⟩) (fun r s'=>r=.ok (.ret (.bool true))/\OldK s₁.heap s'.heap/\s'.os=s₁.os/\AllBare s'.gens) s₁:=by
 have rv:=mj hi
 have lenV:=hi.length
 have core:∀ H:Hp,Dm H->bj K H a (ns.map V.int)->iA P w H s₁.heap->(∀ b,H b≠none->b=a)->(H a≠none->K.lookup a=none)→
   codeAny (model P w) callerA (.call (.ref fa) ⟨[.ref a],[]⟩) (fun r s'=>r=.ok (.ret (.bool true))/\OldK s₁.heap s'.heap/\s'.os=s₁.os/\AllBare s'.gens) s₁:=by
  intro H hO hS hok hA hK
  have base_of:∀ {b:Addr} {o:Obj},s₁.heap.get? b=some o->H b=none->(o8 s₁.heap H).get? b=some o:=fun e n=>xO e n
  have noA:∀ {b:Addr} {o:Obj} {es:Array DictEntry} {ep:Nat},s₁.heap.get? b=some o->o.data=.dict es ep->H b=none:=fun {b o es ep} e d=>by
   cases q:H b with
   | none=>rfl
   | some u=>
    have e':b=a:=hA b (by rw [q];simp)
    subst e'
    rw [ha] at e;cases e
    have d':Data.seq vs.toArray _=Data.dict es ep:=d
    cases d'
  have nsK:∀ {b:Addr} {m:Str->Option Value},s₁.heap.Ns b m->(o8 s₁.heap H).Ns b m:=fun {b m} ⟨o,es,ep,e,d,r⟩=>⟨o,es,ep,base_of e (noA e d),d,r⟩
  have hKb:K.In (o8 s₁.heap H):=fun b o e=>base_of (KX b o e) (by
   cases q:H b with
   | none=>rfl
   | some u=>
    have e':b=a:=hA b (by rw [q];simp)
    subst e'
    rw [hK (by rw [q];simp)] at e;cases e)
  have hM:Mod K mg (o8 s₁.heap H):=⟨hKb,nsK hns,⟨mb,nsK hb,hbb⟩,let ⟨mc,h1,h2⟩:=hlim;⟨mc,nsK h1,h2⟩⟩
  have e0:l7 P w K mg (o8 s₁.heap H) callerA [] s₁ H:=⟨rfl,hM,fun b o e=>zF e,Nat.le_of_eq (vg _ _),trivial,fun b hb=>absurd (show b∈([]:List Addr) from hb) (by simp),hok,.of_eq hg⟩
  refine codeAny_mono ((F _ hKb (nsK hns)).run callerA [] s₁ H ⟨[.ref a],[]⟩ [.ref a] [.ref a] _ _ hr e0 (hbind s₁ (.ref a)) (.cons rfl .nil) (hsp H hO hS)) fun r s' h=>?_
  cases r with
  | error e=>exact (hCX H e s' h).elim
  | ok fl=>
   cases fl with
   | next=>exact False.elim h
   | brk=>exact False.elim h
   | cont=>exact False.elim h
   | ret u=>
    obtain⟨v,H',os,bare,un,hok',r',q⟩:=h
    have q':v=.bl true:=q
    subst q'
    obtain rfl:u=Value.bool true:=r'
    refine⟨rfl,OldK.of_keep fun b o e=>?_,os,bare⟩
    cases q:H b with
    | none=>exact un.keep b o e q (by intro z;exact absurd (show b∈([]:List Addr) from z) (by simp)) (by simp)
    | some u=>
     rcases hO b with z | ⟨ob,xs,z⟩
     ·rw [q] at z;cases z
     ·have z2:=un.frzs b ob _ z
      obtain⟨e1,_⟩:=hok b _ z
      obtain⟨e2,_⟩:=hok' b _ z2
      rw [e] at e1;cases e1
      exact e2
 cases hk:K.lookup a with
 | some o=>
  have e:=KX a o hk
  rw [ha] at e
  cases e
  refine core (fun _=>none) (fun _=>.inl rfl) (.inr ⟨_,vs.toArray,_,hk,rfl,rfl,rfl,by rw [List.size_toArray,lenV];exact hl,by simpa using rv⟩) (fun b u z=>by have z':(none:Option HO)=some u:=z;cases z') (fun b z=>absurd rfl z) fun z=>absurd rfl z
 | none=>
  refine core (fun b=>if b=a then some (.frz { cls:=.type "list", data:=.seq vs.toArray } (.lst (ns.map V.int))) else none) (fun b=>?_) (.inl (.inr ⟨{ cls:=.type "list", data:=.seq vs.toArray },if_pos rfl⟩)) (fun b u z=>?_) (fun b z=>?_) fun _=>hk
  ·by_cases hb:b=a
   ·exact .inr ⟨_,_,if_pos hb⟩
   ·exact .inl (if_neg hb)
  ·by_cases hb:b=a
   ·have z':=(if_pos hb).symm.trans z
    cases z'
    subst hb
    exact⟨ha,by rw [List.length_map];exact hl,vs,_,rv,ha⟩
   ·have z':=(if_neg hb).symm.trans z
    cases z'
  ·by_cases hb:b=a
   ·exact hb
   ·exact absurd (if_neg hb) z
end L2
namespace L2
open PySem PySem.Spec PyProof.Rows
abbrev IJ {K:Fg} {h:Heap} (_:K.In h):Fg:=K
theorem walk_of {l:PySem.W.OpenLaw} {n k:Nat} {q:Program} {loose:List Str} {XP:(Str->Option Value)->Heap->Prop} {YP:World->Heap->Prop} {d:DefRec} {K:Params->Fg} {CX:World->pG} {sp:World->Sp} {x:Str}
  (hn:l.most=some n) (hn2:n≤sizeLine) (hdf:d.params.defaults=[]) (hr:dD k callerA)
  (hY:∀ (w:World) (h:Heap),YP w h->(K w.params).In h)
  (F:∀ (w:World) (mg:Str->Option Value) (fa:Addr) (h:Heap),(K w.params).In h->h.Ns mainGlobals mg->mg d.name=some (.ref fa)→
   ∃ fd:FuncData,(∀ (s:Shared) (u:Value),BindsTo s fd ⟨[u],[]⟩ [(x,u)])∧
    ∀ base:Heap,(K w.params).In base->base.Ns mainGlobals mg->bK l.prog w (K w.params) mg base (CX w) k fa fd [x] (sp w))
  (hsp:∀ (w:World) (H:Hp) (a:Addr) (ns:List Int),ns.length≤n->Dm H->bj (K w.params) H a (ns.map V.int)->sp w [.ref a] H (fun v _=>v=.bl true) fun _ _ _=>False)
  (hCX:∀ (w:World) (H:Hp) (s:Shared) (e:Value) (s':Shared),CX w [] H s (fun _ _ _=>False) e s'->False) :
  PySem.W.WalkO q loose XP YP l.row.toRowW d [] (fun f vs=>PySem.call f vs):=by
 refine Att.attach_call hn hdf fun w s₀ s₁ mg mb fa o pm cd doc a vs ns G Y ho hd hcd hmg hobj hints hlen hg=>?_
 have KX:=hY w _ Y
 obtain⟨fd,hb,hF⟩:=F w mg fa _ KX G.T.g hmg
 exact xF KX G.T.g G.T.b G.T.builtins G.T.nolimit hg hobj hints (Nat.le_trans hlen hn2) hr hF hb (fun H hO hS=>hsp w H a ns hlen hO hS) fun H e s'=>hCX w H s₁ e s'
end L2
namespace L2
open PySem PySem.Spec PyProof.Rows
def zS (s:Stmt) (j:Nat):Stmt:=match s with
 | .ClassDef _ _ _ body _ _ _ _ _ _ _=>body.getD j (.Pass ⟨0,0,0,0⟩)
 | _=>.Pass ⟨0,0,0,0⟩
def aQ (s:Stmt):Arguments:=match s with
 | .FunctionDef _ a _ _ _ _ _ _ _ _=>a
 | _=>{ posonlyargs:=[],args:=[],vararg:=none,kwonlyargs:=[],kw_defaults:=[],kwarg:=none,defaults:=[] }
def aI (s:Stmt):List Stmt:=match s with
 | .FunctionDef _ _ b _ _ _ _ _ _ _=>b
 | _=>[]
def ai (s:Stmt):Scope:=match s with
 | .FunctionDef _ _ _ _ _ _ sc _ _ _=>sc
 | _=>{ kind:=.function,names:=[],isGenerator:=false,isCoroutine:=false }
abbrev d9:pG:=fun _ _ _ _ _ _=>False
abbrev E0:XK:=fun _ _ _=>False
theorem jK {X:Cx}:f8 d9 X E0:=fun _ _ _ _ _ _ _ h=>h.elim
structure Fun (K:Fg) (x qual:Str) (st:Stmt) (f:Addr) (fd:FuncData):Prop where
 ex:∃ (oc:Value) (od:Option Addr) (kV doc pm:Value) (an:Option Addr) (cdv ct:Value) (osl:Array (Option Value)),
  fd=PySem.W.fnOf x qual (aQ st) (aI st) (ai st) .none kV doc pm an cdv ct/\K.lookup f=some ⟨oc,od,.func fd,osl⟩/\PySem.W.codeIn K cdv qual=true
 kp:PySem.W.keepIn K (.ref f)=true
section
variable {P:Program} {w:World} {K:Fg} {mg:Str->Option Value} {base:Heap}
theorem Fun.ok {x qual:Str} {st:Stmt} {f:Addr} {fd:FuncData} {N ps:List Str} {k:Nat} {sp:Sp} (F:Fun K x qual st f fd) (S:aO N ps (ai st)) (len:∀ vs H Q E,sp vs H Q E->vs.length=ps.length)
  (hbody:∀ (cdv:Value) (A:Around) (outer:List Env) (s:Shared) (H:Hp) (vs:List V) (Q:VK) (E:XK),dD k (A.deeper (envOfC qual (ai st) s.heap.objs.size f cdv))->sp vs H Q E→
   ∃ t,nX (bP d9 P w K mg base N qual (ai st) f cdv A outer s H E).nox (aI st) t/\t { nx:=fun _ H'=>Q .non H',rt:=Q } (eV N vs) H):bK P w K mg base d9 (k+1) f fd ps sp:=by
 obtain⟨oc,od,kV,doc,pm,an,cdv,ct,osl,rfl,lk,hcd⟩:=F.ex
 refine AV lk hcd S len fun A outer s H vs Q E hr hsp=>?_
 obtain⟨t,h,q⟩:=hbody cdv A outer s H vs Q E hr hsp
 exact⟨t,h.nox,q⟩
theorem Fun.binds {x qual:Str} {st:Stmt} {f:Addr} {fd:FuncData} {ps:List Str} (F:Fun K x qual st f fd)
  (h:∀ (kV doc pm:Value) (an:Option Addr) (cdv ct:Value) (us:List Value),us.length=ps.length->bindArgs (PySem.W.fnOf x qual (aQ st) (aI st) (ai st) .none kV doc pm an cdv ct) ⟨us,[]⟩=pure (ps.zip us)):bi K fd ps []:=by
 obtain⟨oc,od,kV,doc,pm,an,cdv,ct,osl,rfl,lk,hcd⟩:=F.ex
 exact .all (h kV doc pm an cdv ct)
theorem be {x qual:Str} {st:Stmt} {f:Addr} {oc:Value} {od an:Option Addr} {osl:Array (Option Value)} {kV doc pm cdv ct:Value} (l:K.lookup f=some ⟨oc,od,.func (PySem.W.fnOf x qual (aQ st) (aI st) (ai st) .none kV doc pm an cdv ct),osl⟩)
  (c:PySem.W.codeIn K cdv qual=true) (k:PySem.W.keepIn K (.ref f)=true):Fun K x qual st f (PySem.W.fnOf x qual (aQ st) (aI st) (ai st) .none kV doc pm an cdv ct):=⟨⟨oc,od,kV,doc,pm,an,cdv,ct,osl,rfl,l,c⟩,k⟩
end
theorem nI {A:Around} {k:Nat} (hr:dD k A):A.units+1 < cLine:=Nat.lt_of_le_of_lt (Nat.add_le_add_left (by decide:1≤64) _) hr.units
theorem cF {n:Nat} (h:n≤1000):n < sizeLine:=Nat.lt_of_le_of_lt h (by decide)
section
variable {X:Cx}
theorem pv (i:Nat) {x:Str} {pos:Pos} (hN:X.N[i]?=some x:=by rfl) (hv:Fu X.env.scope x:=by first | exact Or.inl rfl | exact Or.inr (Or.inl rfl) | exact Or.inr (Or.inr rfl)) (hd:(x == ("__debug__" : Str))=false:=by decide)
  (hcd:(x == ("__classdict__" : Str))=false:=by decide):PE X (.Name x pos) (Ba i):=BW hN hv hd hcd
end
theorem bS {A B:Prop} (h:B):if false=true then A else B:=by
 rw [if_neg Bool.false_ne_true]
 exact h
theorem cD {A B:Prop} (h:A):if true=true then A else B:=by
 rw [if_pos rfl]
 exact h
theorem sx {c A B:Prop} [Decidable c] (h1:c->A) (h2:¬ c->B):if c then A else B:=by
 by_cases h:c
 ·rw [if_pos h]
  exact h1 h
 ·rw [if_neg h]
  exact h2 h
theorem f9 {c A B:Prop} [Decidable c] (hc:c) (h:B):if (!decide c)=true then A else B:=by
 rw [decide_eq_true hc]
 exact bS h
def aw (H H':Hp):Prop:=∀ b o,H b=some o->H' b=some o
theorem aw.refl (H:Hp):aw H H:=fun _ _ h=>h
theorem aw.trans {H H1 H2:Hp} (a:aw H H1) (b:aw H1 H2):aw H H2:=fun c o h=>b c o (a c o h)
theorem aw.seq {K:Fg} {H H':Hp} {a:Addr} {xs:List V} (e:aw H H') (h:bj K H a xs):bj K H' a xs:=by
 rcases h with (h | ⟨o,h⟩) | h
 ·exact .inl (.inl (e _ _ h))
 ·exact .inl (.inr ⟨o,e _ _ h⟩)
 ·exact .inr h
end L2
set_option maxHeartbeats 4000000
namespace B
open PySem L2 PyProof.Rows
theorem lz {c A B:Prop} [Decidable c] (hc:¬ c) (h:A):if (!decide c)=true then A else B:=by
 have e:(!decide c)=true:=by rw [decide_eq_false hc];rfl
 rw [if_pos e];exact h
theorem cv {c A B:Prop} [Decidable c] (hc:c) (h:A):if decide c=true then A else B:=by
 rw [if_pos (decide_eq_true hc)];exact h
theorem bO {c A B:Prop} [Decidable c] (hc:¬ c) (h:B):if decide c=true then A else B:=by
 have e:¬ decide c=true:=by rw [decide_eq_false hc];intro z;cases z
 rw [if_neg e];exact h
theorem tW {b:Bool} {A B:Prop} (hb:b=true) (h:A):if b=true then A else B:=by rw [if_pos hb];exact h
theorem xH {b:Bool} {A B:Prop} (hb:b=false) (h:B):if b=true then A else B:=by
 rw [if_neg (by rw [hb];intro z;cases z)];exact h
def cY (A B:String):Option Bool:=if (Value.type A == Value.type B)=true then some true else if PySem.W.kitMeta B=true then (fastBuiltinMro A).map (·.contains (.type B)) else none
theorem sv {K:Fg} {A B:String} {b:Bool} (h:cY A B=some b):PySem.W.kitOne K (.type A) (.type B)=some b:=h
inductive Ty (H:Hp):V->String->Prop where
 | non:Ty H .non "NoneType"
 | bl (b:Bool):Ty H (.bl b) "bool"
 | int (i:Int):Ty H (.int i) "int"
 | str (x:Str):Ty H (.str x) "str"
 | lst {a:Addr} {xs:List V} (e:H a=some (.lst xs)):Ty H (.ref a) "list"
 | tup {a:Addr} {xs:List V} (e:H a=some (.tup xs)):Ty H (.ref a) "tuple"
theorem Ty.of {H:Hp} {v:V} {n:String} (K:Fg) (h:Ty H v n):jF K H v (.type n):=by
 cases h with
 | non=>exact .non
 | bl b=>exact .bl b
 | int i=>exact .int i
 | str x=>exact .str x
 | lst e=>exact .lst e
 | tup e=>exact .tup e
def FT:List V->Hp->VK->Prop:=fun xs H Q=>∃ x n m b,xs=[x,.ty n]/\Ty H x m/\cY m n=some b/\Q (.bl b) H
theorem fO {X:Cx}:cU X (.builtin "isinstance") FT:=by
 intro pins s σ H xs us Q I r h
 obtain⟨x,n,m,b,rfl,ty,e,q⟩:=h
 obtain⟨u,u2,rfl,rx,ry⟩:=sY r
 obtain rfl:u2=Value.type n:=ry
 exact vf I rx (ty.of X.K) (sv e) fun tk=>⟨.bl b,H,I.tok tk,rfl,q⟩
def FD:V->Bool
 | .int _=>true
 | _=>false
def G4 (n:String):Bool:=n == "tuple"
structure bB (t:Addr) (H H':Hp):Prop where
 keep:∀ b o,b≠t->H b=some o->H' b=some o
 tp:∃ xs,H t=some (.lst xs)
 tp':∃ xs,H' t=some (.lst xs)
theorem bB.trans {t:Addr} {H H1 H2:Hp} (a:bB t H H1) (b:bB t H1 H2):bB t H H2:=⟨fun c o n e=>b.keep c o n (a.keep c o n e),a.tp,b.tp'⟩
theorem bB.up {t:Addr} {H:Hp} {xs ys:List V} (h:H t=some (.lst xs)):bB t H (upd H t (.lst ys)):=⟨fun c o n e=>by rw [aJ n];exact e,⟨_,h⟩,⟨_,af⟩⟩
theorem ak {H:Hp} {p:Addr} (h:H p=none) (o:HO):aw H (upd H p o):=fun b u q=>by rw [aJ (aV q h)];exact q
theorem bB.same {t:Addr} {H H':Hp} (s:aw H H') (h:∃ xs,H t=some (.lst xs)):bB t H H':=⟨fun c o _ e=>s c o e,h,let ⟨xs,e⟩:=h;⟨xs,s _ _ e⟩⟩
theorem bB.new {t p:Addr} {H:Hp} (h:∃ xs,H t=some (.lst xs)) (n:H p=none) (o:HO):bB t H (upd H p o):=bB.same (ak n o) h
theorem bB.refl {t:Addr} {H:Hp} (h:∃ xs,H t=some (.lst xs)):bB t H H:=⟨fun _ _ _ e=>e,h,h⟩
def Th (H:Hp) (v:V):Prop:=∃ n,Ty H v n/\∀ a xs,v=.ref a->H a=some (.tup xs)->∀ x∈xs,∃ m,Ty H x m
theorem pick {xs:List V} {r:Int} (h0:0≤r) (h1:r < (xs.length:Int)):∃ v,jm xs r=some v/\v∈xs:=by
 have hk:r.toNat < xs.length:=by omega
 have ek:r=((r.toNat:Nat):Int):=by omega
 have q:jm xs ((r.toNat:Nat):Int)=some xs[r.toNat]:=bv (List.getElem?_eq_getElem hk)
 rw [← ek] at q
 exact⟨_,q,List.getElem_mem hk⟩
theorem Ej {ns:List Int} {r:Int} (h0:0≤r) (h1:r < (ns.length:Int)):∃ z:Int,jm (ns.map V.int) r=some (.int z):=by
 obtain⟨v,h,hv⟩:=pick (xs:=ns.map V.int) h0 (by rw [List.length_map];exact h1)
 obtain⟨z,_,rfl⟩:=List.mem_map.mp hv
 exact⟨z,h⟩
structure Di (H:Hp) (t s:Addr):Prop where
 ex:∃ (ns:List Int) (p q r:Int),H t=some (.lst [.ref s,.int p,.int q,.int r])/\H s=some (.lst (ns.map V.int))/\s≠t/\ns.length≤63/\0≤p/\0≤q/\0≤r
def Fa (K:Fg):Sp:=fun vs H Q _=>∃ (a:Addr) (ns:List Int),vs=[.ref a]/\bj K H a (ns.map V.int)/\∀ (t s:Addr) (H':Hp),aw H H'->H t=none->H s=none->Di H' t s->Q (.ref t) H'
def Fd:Sp:=fun vs H Q _=>∃ (t s:Addr) (m:Int),vs=[.ref t,.int m]/\Di H t s/\0 < m/\m < 1073741824/\∀ (r:Int) (xs:List V),0≤r->r < m->Di (upd H t (.lst xs)) t s->Q (.int r) (upd H t (.lst xs))
def Fb (K:Fg):Sp:=fun vs H Q _=>∃ (a:Addr) (ns:List Int),vs=[.ref a]/\bj K H a (ns.map V.int)/\ns.length≤63/\∀ H',Q (.bl true) H'
theorem qJ {a b:Int} (ha:0≤a) (hb:0 < b):Int.gcd b (a % b)=Int.gcd a b:=by
 obtain⟨n,rfl⟩:=Int.eq_ofNat_of_zero_le ha
 obtain⟨m,rfl⟩:=Int.eq_ofNat_of_zero_le (Int.le_of_lt hb)
 rw [← Int.natCast_emod]
 show Nat.gcd m (n % m)=Nat.gcd n m
 rw [Nat.gcd_comm m,← Nat.gcd_rec,Nat.gcd_comm]
theorem sP (i:Int):(if i < 0 then -i else i)=(i.natAbs:Int):=by split <;> omega
end B
namespace B
open PySem PySem.Spec L2 PyProof.Rows
mutual
inductive bu (K:Fg) (H:Hp):V->PyData->Prop where
 | non:bu K H .non .none
 | bl (b:Bool):bu K H (.bl b) (.bool b)
 | int (i:Int):bu K H (.int i) (.int i)
 | str (x:Str):bu K H (.str x) (.str x)
 | lst {a:Addr} {xs:List V} {ds:List PyData} (e:bj K H a xs) (h:aq K H xs ds):bu K H (.ref a) (.list ds)
 | tup {a:Addr} {xs:List V} {ds:List PyData} (e:aZ K H a xs) (h:aq K H xs ds):bu K H (.ref a) (.tuple ds)
inductive aq (K:Fg) (H:Hp):List V->List PyData->Prop where
 | nil:aq K H [] []
 | cons {x:V} {d:PyData} {xs:List V} {ds:List PyData} (h:bu K H x d) (t:aq K H xs ds):aq K H (x :: xs) (d :: ds)
end
mutual
theorem bu.reads {X:Cx} {pins:cf} {σ:L2.St} {H:Hp} {s:Shared} (I:Inv X pins σ H s):∀ {v:V} {d:PyData} {u:Value},bu X.K H v d->bo v u->∃ as,Reads s.heap u d as
 | _,_,u,.non,r=>by cases (show u=Value.none from r);exact⟨_,.none⟩
 | _,_,u,.bl b,r=>by cases (show u=Value.bool b from r);exact⟨_,.bool b⟩
 | _,_,u,.int i,r=>by obtain⟨t,q⟩:=(show ∃ t,u=Value.int i t from r);cases q;exact⟨_,.int i t⟩
 | _,_,u,.str x,r=>by obtain⟨t,q⟩:=(show ∃ t,u=Value.str x t from r);cases q;exact⟨_,.str x t⟩
 | _,_,u,.lst (a:=a) e h,r=>by
  cases (show u=Value.ref a from r)
  obtain⟨its,rv,⟨o,n,ho,hc,_,hd⟩,_⟩:=I.list e
  obtain⟨as,q⟩:=aq.reads I h rv
  exact⟨_,.list ho hc hd (by simpa using q)⟩
 | _,_,u,.tup (a:=a) e h,r=>by
  cases (show u=Value.ref a from r)
  obtain⟨its,rv,⟨o,ho,hc,n,hd⟩,_⟩:=I.tuple e
  obtain⟨as,q⟩:=aq.reads I h rv
  exact⟨_,.tuple ho hc hd (by simpa using q)⟩
theorem aq.reads {X:Cx} {pins:cf} {σ:L2.St} {H:Hp} {s:Shared} (I:Inv X pins σ H s):∀ {vs:List V} {ds:List PyData} {us:List Value},aq X.K H vs ds->bf vs us->∃ as,ReadsAll s.heap us ds as
 | _,_,_,.nil,.nil=>⟨_,.nil⟩
 | _,_,_,.cons h t,.cons r q=>
  let ⟨_,a⟩:=bu.reads I h r
  let ⟨_,b⟩:=aq.reads I t q
  ⟨_,.cons a b⟩
end
structure yu (d:PyData):Prop where
 sh:d.showable=true
 nd:d.hasDict=false
 sz:d.shown.length≤sizeLine
 dp:d.depth≤16
def D3 (K:Fg):List V->Hp->VK->Prop:=fun xs H Q=>∃ v d,xs=[v]/\bu K H v d/\yu d/\Q (.str d.shown) H
theorem nN {X:Cx} {k:Nat} (hr:dD k X.A):cU X (.builtin "repr") (D3 X.K):=by
 intro pins s σ H xs us Q I r h
 obtain⟨v,d,rfl,dp,sh,q⟩:=h
 obtain⟨u,rfl,ru⟩:=eU r
 cases dp with
 | non=>cases (show u=Value.none from ru);exact PySem.P.repr_of_none ⟨.str "None", H,I.tok _,⟨_,rfl⟩,q⟩
 | bl b=>cases (show u=Value.bool b from ru);exact PySem.P.repr_of_bool ⟨.str _,H,I.tok _,⟨_,rfl⟩,q⟩
 | int i=>
  obtain⟨t,e⟩:=(show ∃ t,u=Value.int i t from ru)
  cases e
  exact PySem.P.repr_of_int (of_decide_eq_true sh.sh) ⟨.str _,H,I.tok _,⟨_,rfl⟩,q⟩
 | str x=>
  obtain⟨t,e⟩:=(show ∃ t,u=Value.str x t from ru)
  cases e
  exact PySem.P.repr_of_str ⟨.str _,H,I.tok _,⟨_,rfl⟩,q⟩ sh.sz
 | @lst a ys ds e h=>
  cases (show u=Value.ref a from ru)
  obtain⟨as,rd⟩:=bu.reads I (.lst e h) (show bo (.ref a) (.ref a) from rfl)
  exact repr_of_reads' rd sh.sh (fun z=>by rw [sh.nd] at z;cases z) hr.gd (by have:=hr.units;have:=sh.dp;omega) (fun _ _ z=>z) (fun h' u tk hk=>⟨.str _,H,I.kept hk,⟨_,rfl⟩,q⟩) sh.sz
 | @tup a ys ds e h=>
  cases (show u=Value.ref a from ru)
  obtain⟨as,rd⟩:=bu.reads I (.tup e h) (show bo (.ref a) (.ref a) from rfl)
  exact repr_of_reads' rd sh.sh (fun z=>by rw [sh.nd] at z;cases z) hr.gd (by have:=hr.units;have:=sh.dp;omega) (fun _ _ z=>z) (fun h' u tk hk=>⟨.str _,H,I.kept hk,⟨_,rfl⟩,q⟩) sh.sz
end B
namespace B
open PySem PySem.Spec L2 PyProof.Rows
def kd (X:Cx) (N':List Str) (scope:Scope) (cl:List (Str×Addr)) (C:Addr) (fp:List Addr) (pins:cf) (s:Shared) (H:Hp):Cx:=
 { X with N:=N',s₀:=s,H₀:=H,env:=compEnvC scope cl C X.env,outer:=X.stack,stack:=X.stack,ex:=fp,fn:=fun _=>false,pn:=X.pn++pins,xe:=fun _ _=>False }
def dz (X:Cx) (scope:Scope) (cl:List (Str×Addr)):List Str->List (Option Nat)->Prop
 | [],[]=>True
 | _ :: N,none :: r=>dz X scope cl N r
 | x :: N,some j :: r=>X.N[j]?=some x/\X.env.kindOf x=some .cell/\(compEnvC scope cl 0 X.env).kindOf x=some .cell/\cl.lookup x=X.env.cells.lookup x/\dz X scope cl N r
 | _,_=>False
def d0 (src:List (Option Nat)) (σ:L2.St):L2.St:=src.map fun o=>o.bind fun j=>(σ[j]?).getD none
theorem dz.len {X:Cx} {scope:Scope} {cl:List (Str×Addr)}:∀ {N:List Str} {src:List (Option Nat)},dz X scope cl N src->N.length=src.length
 | [],[],_=>rfl
 | _ :: _,none :: _,h=>congrArg (·+1) (dz.len (X:=X) (scope:=scope) (cl:=cl) h)
 | _ :: _,some _ :: _,h=>congrArg (·+1) (dz.len (X:=X) (scope:=scope) (cl:=cl) h.2.2.2.2)
theorem dz.at {X:Cx} {scope:Scope} {cl:List (Str×Addr)} {σ:L2.St}:∀ {N:List Str} {src:List (Option Nat)} {i:Nat} {x:Str} {v:V},dz X scope cl N src->N[i]?=some x->(d0 src σ)[i]?=some (some v)→
  ∃ j:Nat,X.N[j]?=some x/\σ[j]?=some (some v)/\X.env.kindOf x=some .cell/\(compEnvC scope cl 0 X.env).kindOf x=some .cell/\cl.lookup x=X.env.cells.lookup x
 | y :: N,none :: r,0,x,v,h,e,q=>by cases q
 | y :: N,none :: r,i+1,x,v,h,e,q=>dz.at (N:=N) (src:=r) (i:=i) h e q
 | y :: N,some j :: r,0,x,v,h,e,q=>by
  cases e
  refine⟨j,h.1,?_,h.2.1,h.2.2.1,h.2.2.2.1⟩
  have q':some ((σ[j]?).getD none)=some (some v):=q
  injection q' with q'
  cases z:σ[j]? with
  | none=>rw [z] at q';cases q'
  | some o=>rw [z] at q';exact congrArg some q'
 | y :: N,some j :: r,i+1,x,v,h,e,q=>dz.at (N:=N) (src:=r) (i:=i) h.2.2.2.2 e q
def fo (X:Cx) (scope:Scope) (cl:List (Str×Addr)):Prop:=
 (∀ x,((compEnvC scope cl 0 X.env).kindOf x=some .cell∨(compEnvC scope cl 0 X.env).kindOf x=some .free)->∃ c,cl.lookup x=some c)/\∀ x c,cl.lookup x=some c->X.env.cells.lookup x=some c
def jj (X:Cx):List (Str×Addr)->Prop
 | []=>True
 | y :: r=>X.env.cells.lookup y.1=some y.2/\jj X r
theorem jj.mem {X:Cx}:∀ {cl:List (Str×Addr)},jj X cl->∀ y∈cl,X.env.cells.lookup y.1=some y.2
 | [],_,y,h=>by cases h
 | z :: r,k,y,h=>by
  rcases List.mem_cons.mp h with e | h
  ·rw [e];exact k.1
  ·exact jj.mem k.2 y h
theorem mem_of_lookup {α:Type} {x:Str} {v:α}:∀ {l:List (Str×α)},l.lookup x=some v->(x,v)∈l
 | [],h=>by cases h
 | (y,w) :: r,h=>by
  rw [List.lookup_cons] at h
  cases e:x == y with
  | true=>
   rw [e] at h
   have e':x=y:=eq_of_beq e
   cases h
   rw [e'];exact List.mem_cons_self
  | false=>
   rw [e] at h
   exact List.mem_cons_of_mem _ (mem_of_lookup h)
theorem bz {X:Cx} {scope:Scope} {cl:List (Str×Addr)} (h1:((relabel scope X.env).names.all fun y=>!(y.2 == .cell || y.2 == .free) || (cl.lookup y.1).isSome)=true) (h2:jj X cl):fo X scope cl:=by
 refine⟨fun x h=>?_,fun x c e=>h2.mem _ (mem_of_lookup e)⟩
 have h3:=List.all_eq_true.mp h1
 have key:∀ k:NameKind,(k=.cell∨k=.free)->(relabel scope X.env).names.lookup x=some k->∃ c,cl.lookup x=some c:=fun k hk e=>by
  have q:=h3 _ (mem_of_lookup e)
  have z:(k == NameKind.cell || k == NameKind.free)=true:=by rcases hk with rfl | rfl <;> rfl
  simp only [z,Bool.not_true,Bool.false_or] at q
  exact Option.isSome_iff_exists.mp q
 rcases h with h | h
 ·exact key _ (.inl rfl) h
 ·exact key _ (.inr rfl) h
def ji (σ σ':L2.St):Prop:=σ'.length=σ.length/\∀ (i:Nat) (v:V),σ[i]?=some (some v)->σ'[i]?=some (some v)
theorem ji.set {σ:L2.St} {i:Nat} {v:V} (h:σ[i]?=some none):ji σ (σ.set i (some v)):=by
 refine⟨List.length_set,fun j u e=>?_⟩
 have ne:i≠j:=fun z=>by subst z;rw [h] at e;cases e
 rw [List.getElem?_set_ne ne];exact e
section
variable {X:Cx} {N':List Str} {scope:Scope} {cl:List (Str×Addr)} {src:List (Option Nat)} {pins:cf} {σ:L2.St} {H:Hp} {s:Shared} {fp:List Addr}
theorem Cx.comp_ok {C:Addr} (I:Inv X pins σ H s) (hC:s.heap.objs.size≤C) (hk:scope.kind=.function) (hf:∀ b∈fp,jh X pins H b) (hfs:∀ b∈fp,b < s.heap.objs.size) (hc:fo X scope cl) :
  (kd X N' scope cl C fp pins s H).Ok where
 mod:=I.ok.mod
 kind:=hk
 glob:=I.ok.glob
 blt:=I.ok.blt
 above:=hC
 inj:=fun x y c e1 e2=>I.ok.inj x y c (hc.2 x c e1) (hc.2 y c e2)
 has:=fun x h=>hc.1 x h
 cab:=fun x c z=>nomatch z
 hd:=I.ok.hd
 frames:=I.ok.frames
 stk:=.inl rfl
 exf:=fun b hb=>⟨fun z=>by have:=hfs b hb;rw [show b=C from z] at this;exact absurd (Nat.lt_of_lt_of_le this hC) (Nat.lt_irrefl _),fun x c e=>(hf b hb).2.2.2.2.1 x c (hc.2 x c e)⟩
 bs:=I.bs
 bsz:=Nat.le_trans I.ok.bsz I.sz
 noex:=fun b o e hb=>by
  rcases (hf b hb).2.2.2.1 with z | z
  ·exact I.ok.noex b o e z
  ·rw [(I.ok.bs b o e).1] at z;cases z
 exfs:=fun b hb z=>by
  rcases List.mem_cons.mp (I.stkSub b z) with q | q
  ·exact (hf b hb).2.1 q
  ·exact (hf b hb).2.2.1 q
 funs:=I.stack
 frf:=I.stkFree
theorem Inv.comp {C:Addr} {h₁:Heap} {m:Str->Option Value} {tk:Nat} (I:Inv X pins σ H s) (hC:C=s.heap.objs.size) (hns:h₁.Ns C m) (keep:∀ b o,s.heap.get? b=some o->h₁.get? b=some o)
  (hk:scope.kind=.function) (hf:∀ b∈fp,jh X pins H b) (hfs:∀ b∈fp,b < s.heap.objs.size) (hc:fo X scope cl) (hfree:dz X scope cl N' src) :
  Inv (kd X N' scope cl C fp pins s H) [] (d0 src σ) H { s with heap:=h₁,toks:=tk } where
 ok:=Cx.comp_ok I (Nat.le_of_eq hC.symm) hk hf hfs hc
 os:=rfl
 bare:=I.bare
 base:=Un.kept keep
 loc:=⟨m,hns,fun i x v e1 e2 _=>by
  obtain⟨j,hj,hσ,kc,kc',hl⟩:=hfree.at e1 e2
  obtain⟨m0,hn0,hl0⟩:=I.loc
  obtain⟨u,r,l⟩:=hl0 j x v hj hσ (Or.inr (Or.inl kc))
  rcases l with ⟨k,_⟩ | ⟨k,c,e,o,ho,hd⟩
  ·rw [kc] at k;cases k
  ·exact⟨u,r,.inr ⟨.inl kc',c,hl.trans e,o,keep c o ho,hd⟩⟩⟩
 cell:=fun x c e=>let ⟨v,o,ho,hd⟩:=I.cell x c (hc.2 x c e);⟨v,o,keep _ _ ho,hd⟩
 free:=I.hok.fresh (Nat.le_of_eq hC.symm)
 freeC:=fun x c e=>I.freeC x c (hc.2 x c e)
 pin:=fun p hp=>by
  have hp':p∈X.pn++pins:=by
   have z:p∈(X.pn++pins)++[]:=hp
   rw [List.append_nil] at z;exact z
  obtain⟨e,n,ne,nf,d⟩:=I.pin p hp'
  refine⟨keep _ _ e,n,fun z=>?_,fun z=>?_,d⟩
  ·have:=Heap.lt_size e;rw [show p.1=C from z,hC] at this;exact Nat.lt_irrefl _ this
  ·rcases List.mem_cons.mp (I.stkSub _ z) with q | q
   ·exact ne q
   ·exact nf q
 hok:=I.hok.kept keep
 len:=by show (d0 src σ).length=N'.length;unfold d0;rw [List.length_map,hfree.len]
end
def Dw (X:Cx) (ifs:List Expr) (t:TT):Prop:=
 ∀ (pins:cf) (s:Shared) (σ:L2.St) (H:Hp) (Q:Bool->Hp->Prop),Inv X pins σ H s->t σ H Q→
  wpAny (model X.prog X.w) X.A (forIn ifs true fun c r=>if r=true then do let ok ← isTrue c X.env (eval c X.env);pure (ForInStep.yield ok) else pure (ForInStep.yield r)) (TP X pins σ Q) X.xe s
def Dz:TT:=fun _ H Q=>Q true H
theorem yY {X:Cx}:Dw X [] Dz:=fun _ _ _ H _ I h=>wpAny_tests_nil ⟨H,I,h⟩
theorem yX {X:Cx} {c:Expr} {t:TT} (h:PT X c t):Dw X [c] t:=fun pins s σ H Q I q=>wpAny_tests_one (h pins s σ H Q I q)
section
variable {prog:Program} {w:World} {A:Around} {R:Result->Shared->Prop} {s:Shared}
theorem vy {elt target iter:Expr} {ifs:List Expr} {scope:Scope} {pos:Pos} {it acc:Value} {env:Env} (I:Nat->Shared->Prop)
  (turn:∀ n s,I n s->wpAny (model prog w) A (pyNext it) (fun r s₁=>match r with
   | none=>R (.ok .next) s₁
   | some v=>wpAny (model prog w) A (letOwnedTupleGo target it v) (fun _ s₁'=>wpAny (model prog w) A (assign target env v) (fun _ s₂=>
     wpAny (model prog w) A (forIn ifs true fun c r=>if r=true then do let ok ← isTrue c env (eval c env);pure (ForInStep.yield ok) else pure (ForInStep.yield r)) (fun ok s₃=>
      if ok=true then wpAny (model prog w) A (eval elt env) (fun x s₄=>
       wpAny (model prog w) A (call (.builtin "list.append") [acc,x]) (fun _ s₅=>∃ m,m < n/\I m s₅) (fun _ _=>False) s₄) (fun _ _=>False) s₃
      else ∃ m,m < n/\I m s₃) (fun _ _=>False) s₂) (fun _ _=>False) s₁') (fun _ _=>False) s₁) (fun _ _=>False) s)
  (n:Nat) (h:I n s):codeAny (model prog w) A (.compLoop (.ListComp elt [⟨target,iter,ifs,0⟩] scope pos) 0 it acc env) R s:=by
 refine codeAny_loop rfl I (fun n s hI=>?_) n h
 show wpAny _ A ((compTurn (.ListComp elt [⟨target,iter,ifs,0⟩] scope pos) 0 it acc env).onRaise (fun x=>do noteFrame x env;theTreesLotGoes x)) _ _ s
 refine wpAny_noted ?_
 rw [compTurn_list]
 refine wpAny_bind (wpAny_standAt (wpAny_bind (wpAny_mono (turn n s hI) (fun r s₁ h₁=>?_) fun _ _ h'=>h'.elim)))
 cases r with
 | none=>exact wpAny_pure h₁
 | some v=>
  refine wpAny_bind (wpAny_mono h₁ (fun _ s₁' h₁'=>?_) fun _ _ h'=>h'.elim)
  refine wpAny_bind (wpAny_mono h₁' (fun _ s₂ h₂=>wpAny_bind (wpAny_mono h₂ (fun ok s₃ h₃=>?_) fun _ _ h'=>h'.elim)) fun _ _ h'=>h'.elim)
  cases ok with
  | false=>exact wpAny_pure ⟨rfl,h₃⟩
  | true=>
   exact wpAny_bind (wpAny_bind (wpAny_mono h₃ (fun x s₄ h₄=>wpAny_bind (wpAny_mono h₄ (fun _ s₅ h₅=>wpAny_pure (wpAny_pure ⟨rfl,h₅⟩)) fun _ _ h'=>h'.elim)) fun _ _ h'=>h'.elim))
end
structure An (X:Cx) (pins:cf) (H:Hp) (C:Addr):Prop where
 no:H C=none
 lo:C≠X.env.locals
 fs:C∉X.fs
 old:X.s₀.heap.get? C=none
 ce:∀ x c,X.env.cells.lookup x=some c->c≠C
 pn:∀ p∈X.pn++pins,p.1≠C
theorem An.turned {X:Cx} {pins:cf} {σ:L2.St} {H:Hp} {C:Addr} {s:Shared} (o:An X pins H C) (I:Inv X pins σ H s) {h':Heap} (sb:Heap.SameBut C s.heap h'):Inv X pins σ H { s with heap:=h' }:=
 I.turned (it:=C) (t':=s.toks) (fun b u hb e=>sb.extBut b u hb e) o.no o.lo (.inr o.old) o.ce o.pn
def pU (wi:TI) (src:List (Option Nat)) (g:TG) (tt:TT) (te:TE):TE:=fun σ H Q=>wi σ H fun J H1=>∀ D,H1 D=none->∃ W:Nat->Nat->List V->Hp->Prop,
 (∃ m,W 0 m [] (upd H1 D (.lst [])))/\∀ i m ys H,W i m ys H->(J.stop i H/\Q (.ref D) H)∨(J.go i H/\∀ x H',J.yld i H x H'->g x (d0 src σ) H' fun σ2 H2=>ji (d0 src σ) σ2/\tt σ2 H2 fun ok H3=>
  if ok=true then te σ2 H3 fun y H4=>H4 D=some (.lst ys)/\ys.length < sizeLine/\∃ m',m' < m/\W (i+1) m' (ys++[y]) (upd H4 D (.lst (ys++[y]))) else ∃ m',m' < m/\W (i+1) m' ys H3)
section
variable {X:Cx} {N':List Str} {scope:Scope} {cl:List (Str×Addr)} {src:List (Option Nat)} {tg iter elt:Expr} {ifs:List Expr} {wi:TI} {g:TG} {tt:TT} {te:TE} {pos:Pos}
theorem qS (hc:X.calm=true) (hi:PI X tg iter wi) (hg:∀ C fp pins s H,PG (kd X N' scope cl C fp pins s H) tg g) (ht:∀ C fp pins s H,Dw (kd X N' scope cl C fp pins s H) ifs tt)
  (he:∀ C fp pins s H,PE (kd X N' scope cl C fp pins s H) elt te) (hfree:dz X scope cl N' src) (hcell:∀ x∈scope.names,x.2≠.cell) (hkind:scope.kind=.function) (hcl:fo X scope cl)
  {RR:Value->Addr->Result->Shared->Prop} {pins:cf} {s:Shared} {σ:L2.St} {H:Hp} {Q:VK} (I:Inv X pins σ H s) (h:pU wi src g tt te σ H Q)
  (hRR:∀ D C H' s',Q (.ref D) H'->(∃ m,s'.heap.Ns C m)->Inv X pins σ H' s'->An X pins H' C->RR (.ref D) C (.ok .next) s') :
  wpAny (model X.prog X.w) X.A (eval iter X.env) (fun x s₁=>wpAny (model X.prog X.w) X.A (pyIter x) (fun itv s₂=>wpAny (model X.prog X.w) X.A (newList []) (fun acc s₃=>
   wpAny (model X.prog X.w) X.A (newFunctionEnv scope X.env.globals cl [] X.env.qual none .none (some X.env)) (fun cenv s₄=>
    codeAny (model X.prog X.w) X.A (.compStart (.ListComp elt [⟨tg,iter,ifs,0⟩] scope pos) 0 itv acc { cenv with scope:=relabel scope X.env }) (RR acc cenv.locals) s₄) X.xe s₃) X.xe s₂) X.xe s₁) X.xe s:=by
 refine cA (hi pins s σ H _ I h) fun v s1 h1=>cA h1 fun itv s2 h2=>?_
 obtain⟨it,fp,tn,J,H2,e,I2,T,st2,f2,h2⟩:=h2
 subst e
 refine wpAny_newObj_type ?_ (by show 0≤sizeLine;exact Nat.zero_le _)
 have hD:H2 s2.heap.objs.size=none:=I2.fresh
 have I3:Inv X pins σ (upd H2 s2.heap.objs.size (.lst [])) { s2 with heap:=s2.heap.push { cls:=.type "list", data:=.seq ([]:List Value).toArray } }:=I2.lnew (t':=s2.toks) (its:=[]) .nil (Nat.zero_le _)
 obtain⟨W,⟨m0,w0⟩,turn⟩:=h2 s2.heap.objs.size hD
 generalize hDe:s2.heap.objs.size=D at I3 turn w0 hD ⊢
 have st3:tn 0 (s2.heap.push { cls:=.type "list", data:=.seq ([]:List Value).toArray }):=T.keep _ _ _ st2 fun b _ o e=>Heap.get?_push_of_some _ e
 have f3:∀ b∈fp,jh X pins (upd H2 D (.lst [])) b/\b < (s2.heap.push { cls:=.type "list", data:=.seq ([]:List Value).toArray }).objs.size:=fun b hb=>by
  obtain⟨o,e,_⟩:=T.obj _ _ st2 b hb
  have l:=Heap.lt_size e
  rw [hDe] at l
  refine⟨⟨?_,(f2 b hb).2⟩,by rw [Heap.size_push,hDe];exact Nat.lt_succ_of_lt l⟩
  rw [aJ (Nat.ne_of_lt l)];exact (f2 b hb).1
 generalize (s2.heap.push { cls:=.type "list", data:=.seq ([]:List Value).toArray })=h3 at I3 st3 f3 ⊢
 refine wpAny_newFunctionEnv hcell (by intro y hy;simp at hy) (fun h₄ hns₄ hsb₄=>?_) hkind
 have keep:∀ b o,h3.get? b=some o->h₄.get? b=some o:=fun b o e=>hsb₄.extBut b o (Nat.ne_of_lt (Heap.lt_size e)) (Heap.get?_push_of_some _ e)
 have I4:=Inv.comp (C:=h3.objs.size) (fp:=fp) (tk:=s2.toks+([]:List (Str×Value)).length) I3 rfl hns₄ keep hkind (fun b hb=>(f3 b hb).1) (fun b hb=>(f3 b hb).2) hcl hfree
 have st4:tn 0 h₄:=T.keep _ _ _ st3 fun b _ o e=>keep b o e
 have fpn:∀ b∈fp,(upd H2 D (.lst [])) b=none:=fun b hb=>(f3 b hb).1.1
 have hn3:∀ b∈fp,b≠h3.objs.size:=fun b hb=>Nat.ne_of_lt (f3 b hb).2
 have stat:∀ {H':Hp},(∀ b∈fp,H' b=none)->∀ b∈fp,jh (kd X N' scope cl h3.objs.size fp pins { s2 with heap:=h3 } (upd H2 D (.lst []))) [] H' b:=fun hn b hb=>
  ⟨hn b hb,hn3 b hb,I4.ok.exfs b hb,.inl hb,fun x c e=>(f3 b hb).1.2.2.2.2.1 x c (hcl.2 x c e),fun p hp=>(f3 b hb).1.2.2.2.2.2 p (by
   have z:p∈(X.pn++pins)++[]:=hp
   rw [List.append_nil] at z;exact z)⟩
 have back:∀ {H':Hp} {s':Shared},Inv (kd X N' scope cl h3.objs.size fp pins { s2 with heap:=h3 } (upd H2 D (.lst []))) [] (d0 src σ) H' s'->(∃ m,s'.heap.Ns h3.objs.size m)/\Inv X pins σ H' s'/\An X pins H' h3.objs.size:=fun {H' s'} I'=>by
  have Ib:Inv X pins σ H' s':=I3.call' I'.os I'.base I'.hok I'.bare fun b hb=>⟨(f3 b hb).1.2.2.2.1,(f3 b hb).1.2.1,(f3 b hb).1.2.2.2.2.1,(f3 b hb).1.2.2.2.2.2⟩
  refine⟨let ⟨m,hm,_⟩:=I'.loc;⟨m,hm⟩,Ib,⟨I'.free,fun z=>?_,I3.nofs (Nat.le_refl _),Heap.get?_none_of_le I3.sz,fun x c e z=>?_,fun p hp z=>?_⟩⟩
  ·have:=I3.lt;rw [← z] at this;exact Nat.lt_irrefl _ this
  ·obtain⟨v,o,ho,_⟩:=I3.cell x c e
   have:=Heap.lt_size ho;rw [z] at this;exact Nat.lt_irrefl _ this
  ·obtain⟨e,_⟩:=I3.pin p hp
   have:=Heap.lt_size e;rw [z] at this;exact Nat.lt_irrefl _ this
 have loop:codeAny (model X.prog X.w) X.A (.compLoop (.ListComp elt [⟨tg,iter,ifs,0⟩] scope pos) 0 (.ref it) (.ref D) (compEnvC scope cl h3.objs.size X.env)) (RR (.ref D) h3.objs.size) { s2 with heap:=h₄,toks:=s2.toks+([]:List (Str×Value)).length }:=by
  refine vy (fun n s'=>∃ i ys H',Inv (kd X N' scope cl h3.objs.size fp pins { s2 with heap:=h3 } (upd H2 D (.lst []))) [] (d0 src σ) H' s'/\tn i s'.heap/\(∀ b∈fp,H' b=none)/\W i n ys H') ?_ m0 ⟨0,[],_,I4,st4,fpn,w0⟩
  rintro n s5 ⟨i,ys,H5,I5,st5,fr5,w5⟩
  rcases turn i n ys H5 w5 with ⟨stop,qn⟩ | ⟨go,step⟩
  ·refine cA (T.done (kd X N' scope cl h3.objs.size fp pins { s2 with heap:=h3 } (upd H2 D (.lst []))) rfl rfl rfl hc i [] s5 _ H5 _ I5 (stat fr5) st5 stop) fun r s6 ⟨hr,I6⟩=>?_
   subst hr
   obtain⟨b1,b2,b3⟩:=back I6
   exact hRR D _ H5 s6 qn b1 b2 b3
  ·refine cA (T.item (kd X N' scope cl h3.objs.size fp pins { s2 with heap:=h3 } (upd H2 D (.lst []))) rfl rfl rfl hc i [] s5 _ H5 _ I5 (stat fr5) st5 go) fun r s6 ⟨u,hr,h6⟩=>?_
   subst hr
   refine cA h6 fun _ s7 ⟨x,H7,I7,r7,y7,st7,fr7⟩=>?_
   have I7':=I7.pinned (stat fr7) (T.obj _ _ st7)
   refine cA (hg _ _ _ _ _ _ s7 _ H7 x u _ I7' r7 (step x H7 y7)) fun _ s8 ⟨σ8,H8,I8,ex8,q8⟩=>?_
   refine cA (ht _ _ _ _ _ _ s8 σ8 H8 _ I8 q8) fun ok s9 ⟨H9,I9,q9⟩=>?_
   have again:∀ {ys':List V} {Ha:Hp} {sa:Shared},Inv (kd X N' scope cl h3.objs.size fp pins { s2 with heap:=h3 } (upd H2 D (.lst []))) ([]++kM fp s7.heap) σ8 Ha sa->(∃ m',m' < n/\W (i+1) m' ys' Ha)→
     ∃ m,m < n/\∃ i ys H',Inv (kd X N' scope cl h3.objs.size fp pins { s2 with heap:=h3 } (upd H2 D (.lst []))) [] (d0 src σ) H' sa/\tn i sa.heap/\(∀ b∈fp,H' b=none)/\W i m ys H':=fun {ys' Ha sa} Ia ⟨m',hm,wa⟩=>by
    refine⟨m',hm,i+1,ys',Ha,(Ia.unpinned).weak ex8.1.symm ex8.2,T.keep _ _ _ st7 fun b hb o e=>(Ia.pin (b,o) (List.mem_append_right _ (List.mem_append_right _ (fY hb e)))).1,fun b hb=>?_,wa⟩
    obtain⟨o,e,_⟩:=T.obj _ _ st7 b hb
    exact (Ia.pin (b,o) (List.mem_append_right _ (List.mem_append_right _ (fY hb e)))).2.1
   cases ok with
   | false=>exact again I9 q9
   | true=>
    refine cA (he _ _ _ _ _ _ s9 σ8 H9 _ I9 q9) fun y s10 ⟨yv,H10,I10,r10,q10,hz,wn⟩=>?_
    refine cA (dG _ s10 σ8 H10 (.ref D) [yv] (.ref D) [y] (fun _ Hz=>∃ m',m' < n/\W (i+1) m' (ys++[yv]) Hz) I10 rfl (.cons r10 .nil) ⟨D,ys,yv,rfl,rfl,q10,hz,wn⟩) fun _ s11 ⟨_,H11,I11,_,q11⟩=>?_
    exact again I11 q11
 exact codeAny_compStart_list loop (T.self _ 0 _ _ _ st4 loop)
theorem wQ (hc:X.calm=true) (hi:PI X tg iter wi) (hg:∀ C fp pins s H,PG (kd X N' scope cl C fp pins s H) tg g) (ht:∀ C fp pins s H,Dw (kd X N' scope cl C fp pins s H) ifs tt)
  (he:∀ C fp pins s H,PE (kd X N' scope cl C fp pins s H) elt te) (hfree:dz X scope cl N' src) (hclos:closureFor scope X.env=pure cl) (hcell:∀ x∈scope.names,x.2≠.cell) (hkind:scope.kind=.function)
  (hnames:∀ x∈scope.names,x.2=.local->scope.names.lookup x.1=some .local) (hcl:fo X scope cl) (hs:∀ x,foldedSetIterable iter X.env x=pure x:=by intro _;rfl) :
  PE X (.ListComp elt [⟨tg,iter,ifs,0⟩] scope pos) (pU wi src g tt te):=by
 intro pins s σ H Q I h
 rw [eval_ListComp]
 refine wpAny_comprehension_free (use:=none) rfl hs hclos hkind hnames (qS hc hi hg ht he hfree hcell hkind hcl (RR:=fun acc C=>compPost (model X.prog X.w) X.A X.xe none (EP X pins σ Q) acc C) I h fun D C H' s' q hm hI hb=>?_)
 obtain⟨m,hm⟩:=hm
 exact⟨m,hm,fun h' sb=>⟨.ref D,H',hb.turned hI sb,rfl,q⟩⟩
theorem za {i:Nat} {x:Str} {pos' pos2:Pos} (hN:X.N.Nodup) (hi':X.N[i]?=some x) (hx:Ao X.env.scope x) (hc:X.calm=true) (hi:PI X tg iter wi) (hg:∀ C fp pins s H,PG (kd X N' scope cl C fp pins s H) tg g) (ht:∀ C fp pins s H,Dw (kd X N' scope cl C fp pins s H) ifs tt)
  (he:∀ C fp pins s H,PE (kd X N' scope cl C fp pins s H) elt te) (hfree:dz X scope cl N' src) (hclos:closureFor scope X.env=pure cl) (hcell:∀ x∈scope.names,x.2≠.cell) (hkind:scope.kind=.function)
  (hnames:∀ x∈scope.names,x.2=.local->scope.names.lookup x.1=some .local) (hcl:fo X scope cl) (hs:∀ x,foldedSetIterable iter X.env x=pure x:=by intro _;rfl)
  (hsw:swapsWith (.ListComp elt [⟨tg,iter,ifs,0⟩] scope pos) (some (.Name x pos')) pos2.line X.env=pure true:=by rfl) (hf:X.fn x=true∨X.env.scope.names.lookup x=some .local:=by first | exact .inl rfl | exact .inr rfl | assumption) :
  PS X (.Assign [.Name x pos'] (.ListComp elt [⟨tg,iter,ifs,0⟩] scope pos) pos2) (oi (pU wi src g tt te) (i9 i)):=by
 intro pins s σ H D I h
 rw [exec_Assign_Name_used _ _ _ _ hsw]
 refine wpAny_bind (wpAny_standAt ?_)
 show wpAny _ _ ((comprehension (.ListComp elt [⟨tg,iter,ifs,0⟩] scope pos) scope X.env _ (newList []) false (eval iter X.env) (some (assign (.Name x pos') X.env)) >>= fun _=>pure ()) >>= fun _=>pure Flow.next) _ _ s
 refine wpAny_bind (wpAny_bind (wpAny_mono (wpAny_comprehension_free (use:=some (assign (.Name x pos') X.env)) (Q:=fun _ s''=>SP X pins D .next s'') rfl hs hclos hkind hnames (qS hc hi hg ht he hfree hcell hkind hcl (RR:=fun acc C=>compPost (model X.prog X.w) X.A X.xe (some (assign (.Name x pos') X.env)) (fun _ s''=>SP X pins D .next s'') acc C) I h fun E C H' s' q hm hI hb=>?_)) (fun _ s'' h''=>wpAny_pure (wpAny_pure h'')) fun _ _ e=>e))
 obtain⟨m,o,es,ep,ho,hd,r1,r2⟩:=hm
 have I':Inv X (pins++[(C,o)]) σ H' s':=hI.pins_of fun p hp=>by
  rcases List.mem_append.mp hp with h | h
  ·exact hI.pin p (List.mem_append_right _ h)
  ·rw [List.mem_singleton] at h
   rw [h]
   exact⟨ho,hb.no,hb.lo,hb.fs,fun v z=>by rw [hd] at z;cases z⟩
 refine wpAny_assign_Name (fD I' hN hi' hx (show bo (.ref E) (.ref E) from rfl) (fun s'' I''=>?_) hf)
 have hC:=(I''.pin (C,o) (List.mem_append_right _ (List.mem_append_right _ List.mem_cons_self))).1
 have I3:Inv X pins (σ.set i (some (.ref E))) H' s'':=I''.pins_of fun p hp=>I''.pin p (List.mem_append_right _ (List.mem_append_left _ hp))
 exact⟨m,⟨o,es,ep,hC,hd,r1,r2⟩,fun h' sb=>⟨_,H',hb.turned I3 sb,q⟩⟩
end
def Ho (K:Fg):R2:=fun x y H Q=>∃ d d',bu K H x d/\bu K H y d'/\d.canLay0=true/\d'.canLay0=true/\d.depth≤32/\Q (.bl (!PyData.eqv d d')) H
noncomputable def GP (h:Heap) (x:Value) (d:PyData) (y:Value):Bool:=
 open Classical in if y=x then true else if z:∃ d',d'.canLay0=true/\d'.depth≤32/\∃ as,Reads h y d' as then PyData.eqv z.choose d else false
def AZ (K:Fg) (H:Hp) (xs:List V):Prop:=∀ x∈xs,∃ d,bu K H x d/\d.canLay0=true/\d.depth≤32
def Fi (K:Fg):R2:=fun x y H Q=>∃ a p xs,x=.ref a/\y=.ref p/\bj K H p xs/\V.ref a∈xs/\AZ K H xs/\Q (.bl false) H
def Fn (K:Fg):V->List V->Hp->VK->Prop:=fun x vs H Q=>∃ p xs a d,x=.ref p/\vs=[.ref a]/\bj K H p xs/\V.ref a∈xs/\AZ K H xs/\bu K H (.ref a) d/\d.canLay0=true/\d.depth≤32∧
 ∀ (j:Nat) (v':V),xs[j]?=some v'->(v'=.ref a∨∀ d',bu K H v' d'->d'.canLay0=true->PyData.eqv d' d=true)->Q (.int j) H
end B
namespace B
abbrev R:=Int×Int
def fe (a b:Int):R:=(a / (Int.gcd a b:Int),b / (Int.gcd a b:Int))
structure Wf (n:Nat) (r:R):Prop where
 pos:0 < r.2
 top:r.1.natAbs < 2 ^ n
 bot:r.2.natAbs < 2 ^ n
 cop:Int.gcd r.1 r.2=1
theorem Wf.mono {n m:Nat} {r:R} (h:Wf n r) (l:n≤m):Wf m r:=⟨h.pos,Nat.lt_of_lt_of_le h.top (Nat.pow_le_pow_right (by decide) l),Nat.lt_of_lt_of_le h.bot (Nat.pow_le_pow_right (by decide) l),h.cop⟩
theorem bY {a b:Int} (hb:0 < b):0 < (Int.gcd a b:Int):=by
 have h:Int.gcd a b≠0:=fun z=>by
  have:=(Int.gcd_eq_zero_iff.mp z).2
  omega
 omega
theorem fu (a:Int) {g:Int} (hg:0 < g):(a / g).natAbs≤a.natAbs:=by
 have h1:=Int.ediv_mul_le a (show g≠0 by omega)
 have h2:=Int.lt_ediv_add_one_mul_self a hg
 rcases Int.le_total 0 a with h | h
 ·have h3:=Int.ediv_nonneg h (show 0≤g by omega)
  have h4:a / g≤a / g * g:=by
   have:a / g * 1≤a / g * g:=Int.mul_le_mul_of_nonneg_left (by omega) h3
   omega
  omega
 ·have h3:a / g≤0:=by
   have:=Int.ediv_le_ediv hg h
   rw [Int.zero_ediv] at this;exact this
  have h5:a≤a / g:=by
   have:a / 1≤a / g:=by
    have q:(a / g+1) * g≤(a / g+1) * 1∨0 < a / g+1:=by
     rcases Int.le_total (a / g+1) 0 with z | z
     ·left
      have:=Int.mul_le_mul_of_nonneg_left (a:=1) (b:=g) (c:=-(a / g+1)) (by omega) (by omega)
      have e1:-(a / g+1) * 1=-((a / g+1) * 1):=Int.neg_mul _ _
      have e2:-(a / g+1) * g=-((a / g+1) * g):=Int.neg_mul _ _
      omega
     ·rcases Int.lt_or_eq_of_le z with z | z
      ·right;exact z
      ·left;rw [← z];simp
    rw [Int.ediv_one]
    rcases q with q | q
    ·omega
    ·omega
   rw [Int.ediv_one] at this;exact this
  omega
theorem kX {n:Nat} {a b:Int} (hb:0 < b) (h1:a.natAbs < 2 ^ n) (h2:b.natAbs < 2 ^ n):Wf n (fe a b):=
 ⟨Int.ediv_pos_of_pos_of_dvd hb (Int.le_of_lt (bY hb)) (Int.gcd_dvd_right a b),Nat.lt_of_le_of_lt (fu _ (bY hb)) h1,Nat.lt_of_le_of_lt (fu _ (bY hb)) h2,Int.gcd_ediv_gcd_ediv_gcd (by have:=bY (a:=a) hb;omega)⟩
def de (r q:R):R:=fe (r.1 * q.2+q.1 * r.2) (r.2 * q.2)
def eB (r q:R):R:=fe (r.1 * q.1) (r.2 * q.2)
def gD (r q:R):Bool:=decide (r.1 * q.2 < q.1 * r.2)
theorem kW {x y:Int} {n m:Nat} (h1:x.natAbs < 2 ^ n) (h2:y.natAbs < 2 ^ m):(x * y).natAbs < 2 ^ (n+m):=by
 rw [Int.natAbs_mul,Nat.pow_add]
 exact Nat.mul_lt_mul'' h1 h2
theorem wH {n m:Nat} {r q:R} (h:Wf n r) (k:Wf m q):(r.1 * q.2+q.1 * r.2).natAbs < 2 ^ (n+m+1):=by
 have a:=kW h.top k.bot
 have b:=kW k.top h.bot
 rw [Nat.add_comm m n] at b
 have e:2 ^ (n+m+1)=2 * 2 ^ (n+m):=by rw [Nat.pow_succ,Nat.mul_comm]
 have:=Int.natAbs_add_le (r.1 * q.2) (q.1 * r.2)
 omega
theorem tN {n m:Nat} {r q:R} (h:Wf n r) (k:Wf m q):Wf (n+m+1) (de r q):=
 kX (Int.mul_pos h.pos k.pos) (wH h k) (Nat.lt_of_lt_of_le (kW h.bot k.bot) (Nat.pow_le_pow_right (by decide) (Nat.le_succ _)))
end B
namespace B
open PySem L2 PyProof.Rows
def Gn (i j:Int):Prop:=i.natAbs < 2 ^ 4000/\j.natAbs < 2 ^ 4000
def Gj (_ j:Int):Prop:=0 < j/\j.natAbs < 2 ^ 4000
theorem ur {i:Int} (h:i.natAbs < 2 ^ 4000):Builtin.Int.intBits i≤2 ^ 20:=by
 unfold Builtin.Int.intBits
 split
 ·exact Nat.zero_le _
 ·rename_i z
  have hz : i.natAbs ≠ 0 := fun q => z (by have : i = 0 := by omega
                                           rw [this]; rfl)
  have:=(Nat.log2_lt hz).mpr h
  have e:(2:Nat) ^ 20=1048576:=by decide
  omega
section
variable {X:Cx}
theorem cX:fB X (binaryOp .Mult) (rI Gn fun i j=>.int (i * j)):=Cf fun _ _ _ _ _ _ _ hc q=>mul_int q (IntMulOk.of_bits (ur hc.1) (ur hc.2))
theorem eG:fB X (binaryOp .FloorDiv) (rI Gj fun i j=>.int (i / j)):=Cf fun i j _ _ _ _ _ hc q=>by
 have h1:(0:Int) < j:=hc.1
 have h2:j.natAbs < 2 ^ 4000:=hc.2
 refine floordiv_int (by omega) (by rw [Int.fdiv_eq_ediv_of_nonneg i (by omega)];exact q) (.inl (PyProof.noPylong_of_log2 ?_))
 exact Nat.lt_trans ((Nat.log2_lt (show j.natAbs≠0 by omega)).mpr h2) (by decide)
end
def bn (K:Fg) (H H':Hp):Prop:=∀ p xs,aZ K H p xs->aZ K H' p xs
theorem bn.trans {K:Fg} {H H1 H2:Hp} (a:bn K H H1) (b:bn K H1 H2):bn K H H2:=fun p xs h=>b p xs (a p xs h)
theorem bn.same {K:Fg} {H H':Hp} (s:aw H H'):bn K H H':=fun p xs h=>by
 rcases h with (h | ⟨o,h⟩) | h
 ·exact .inl (.inl (s _ _ h))
 ·exact .inl (.inr ⟨o,s _ _ h⟩)
 ·exact .inr h
theorem bn.step {K:Fg} {t:Addr} {H H':Hp} (S:bB t H H'):bn K H H':=fun p xs h=>by
 obtain⟨ys,ht⟩:=S.tp
 rcases h with (h | ⟨o,h⟩) | h
 ·exact .inl (.inl (S.keep _ _ (fun z=>by subst z;rw [h] at ht;cases ht) h))
 ·exact .inl (.inr ⟨o,S.keep _ _ (fun z=>by subst z;rw [h] at ht;cases ht) h⟩)
 ·exact .inr h
theorem bn.up {K:Fg} {H:Hp} {l:Addr} {xs:List V} (h:H l=some (.lst xs)) (ys:List V):bn K H (upd H l (.lst ys)):=bn.step (bB.up h)
def RV (K:Fg) (H:Hp) (v:V) (r:R):Prop:=∃ p,v=.ref p/\aZ K H p [.int r.1,.int r.2]
theorem RV.mono {K:Fg} {H H':Hp} {v:V} {r:R} (h:RV K H v r) (t:bn K H H'):RV K H' v r:=let ⟨p,e,q⟩:=h;⟨p,e,t _ _ q⟩
theorem RV.of {K:Fg} {H:Hp} {p:Addr} {a b:Int} (h:H p=some (.tup [.int a,.int b])):RV K H (.ref p) (a,b):=⟨p,rfl,aZ.of h⟩
def Fy (K:Fg) (H:Hp) (xs:List V) (rs:List R):Prop:=xs.length=rs.length/\∀ (i:Nat) (x:V) (r:R),xs[i]?=some x->rs[i]?=some r->RV K H x r
theorem Fy.at {K:Fg} {H:Hp} {xs:List V} {rs:List R} {i:Nat} {x:V} (h:Fy K H xs rs) (e:xs[i]?=some x):∃ r,rs[i]?=some r/\RV K H x r:=by
 have hi:=(List.getElem?_eq_some_iff.mp e).1
 have hj:i < rs.length:=by rw [← h.1];exact hi
 exact⟨rs[i],List.getElem?_eq_getElem hj,h.2 i x _ e (List.getElem?_eq_getElem hj)⟩
def Ei (r:R):Nat->R
 | 0=>(1,1)
 | k+1=>eB (Ei r k) r
theorem sV:Wf 1 (0,1):=⟨by decide,by decide,by decide,by decide⟩
def ge (rs:List R):R:=rs.foldl de (0,1)
def dR (r:R):PyData:=.tuple [.int r.1,.int r.2]
theorem RV.deep {K:Fg} {H:Hp} {v:V} {r:R} (h:RV K H v r):bu K H v (dR r):=by
 obtain⟨p,rfl,q⟩:=h
 exact .tup q (.cons (.int _) (.cons (.int _) .nil))
theorem CO {i:Int} {n:Nat} (h:i.natAbs < 2 ^ n) (hn:n≤1900):i.natAbs.log2 < 1920:=by
 by_cases z:i.natAbs=0
 ·rw [z];decide
 ·have:=(Nat.log2_lt z).mpr (Nat.lt_of_lt_of_le h (Nat.pow_le_pow_right (by decide) hn))
  omega
theorem CQ {i:Int} {n:Nat} (h:i.natAbs < 2 ^ n) (hn:n≤1900):(PyData.int i).shown.length≤1921:=by
 have q:=int_text_length_le (a:=i) (k:=1920) (by decide) (CO h hn)
 have e:(PyData.int i).shown.length=(toString i).length:=by
  show (Str.ofString (toString i)).length=_
  exact PySem.ofString_length _
 omega
end B
namespace B
open PySem L2 PyProof.Rows
def dL (rs:List R):PyData:=.list (rs.map dR)
def EH (K:Fg) (tl:TE):TI:=fun σ H R=>tl σ H fun x H1=>(∃ a,x=.ref a/\(∃ xs,bj K H1 a xs)/\R (Dp K a) H1)∨(∃ a,x=.ref a/\(∃ xs,aZ K H1 a xs)/\R (yC K a) H1)
theorem BT {X:Cx} {tg l:Expr} {tl:TE} (hl:PE X l tl):PI X tg l (EH X.K tl):=by
 intro pins s σ H R I h
 refine cA (hl pins s σ H _ I h) fun v s1 ⟨x,H1,I1,r1,q1⟩=>?_
 rcases q1 with ⟨a,e,⟨xs,hq⟩,q⟩ | ⟨a,e,⟨xs,hq⟩,q⟩
 ·subst e;cases r1
  obtain⟨its,rv,p,hz⟩:=I1.list hq
  refine wpAny_pyIter_list p.isList ?_
  refine⟨s1.heap.objs.size,[s1.heap.objs.size],_,_,H1,rfl,I1.kept (t':=s1.toks) fun b o e=>Heap.get?_push_of_some _ e,mv a _,⟨_,Heap.get?_push_size _ rfl,rfl,rfl⟩,fun b hb=>?_,q⟩
  have e:b=s1.heap.objs.size:=by simpa using hb
  subst e
  exact I1.fpOk (Nat.le_refl _) (I1.hok.fresh (Nat.le_refl _))
 ·subst e;cases r1
  obtain⟨its,rv,p,hz⟩:=I1.tuple hq
  refine wpAny_pyIter_tuple (show s1.heap.IsTuple a its.toArray from p) ?_
  refine⟨s1.heap.objs.size,[s1.heap.objs.size],_,_,H1,rfl,I1.kept (t':=s1.toks) fun b o e=>Heap.get?_push_of_some _ e,kn a _,⟨_,Heap.get?_push_size _ rfl,rfl,rfl⟩,fun b hb=>?_,q⟩
  have e:b=s1.heap.objs.size:=by simpa using hb
  subst e
  exact I1.fpOk (Nat.le_refl _) (I1.hok.fresh (Nat.le_refl _))
end B
namespace B
structure lM (r:R):Prop where
 pos:0 < r.2
 cop:Int.gcd r.1 r.2=1
theorem hJ {a b:Int} (hb:0 < b):lM (fe a b):=
 ⟨Int.ediv_pos_of_pos_of_dvd hb (Int.le_of_lt (bY hb)) (Int.gcd_dvd_right a b),Int.gcd_ediv_gcd_ediv_gcd (by have:=bY (a:=a) hb;omega)⟩
theorem dZ {a b x y:Int} (hb:0 < b) (hy:0 < y) (g:Int.gcd x y=1) (e:x * b=a * y):fe a b=(x,y):=by
 have h1:Int.gcd (a * y) (b * y)=Int.gcd a b * y.natAbs:=Int.gcd_mul_right a y b
 have h2:Int.gcd (x * b) (y * b)=Int.gcd x y * b.natAbs:=Int.gcd_mul_right x b y
 rw [e,Int.mul_comm y b,h1,g,Nat.one_mul] at h2
 have h3:(Int.gcd a b:Int) * y=b:=by
  have z:((Int.gcd a b * y.natAbs:Nat):Int)=(b.natAbs:Int):=congrArg _ h2
  rw [Int.natCast_mul,Int.natAbs_of_nonneg (by omega),Int.natAbs_of_nonneg (by omega)] at z
  exact z
 have gp:=bY (a:=a) hb
 have h4:a=x * (Int.gcd a b:Int):=by
  have z:x * (Int.gcd a b:Int) * y=a * y:=by rw [Int.mul_assoc,h3];exact e
  exact (Int.eq_of_mul_eq_mul_right (by omega) z).symm
 unfold fe
 generalize (Int.gcd a b:Int)=G at h3 h4 gp
 subst h4
 subst h3
 rw [Int.mul_ediv_cancel _ (by omega),Int.mul_ediv_cancel_left _ (by omega)]
theorem gL {a b c:Int} (h:Int.gcd a b=1) (d:c∣a):Int.gcd c b=1:=
 Int.gcd_eq_one_iff.mpr fun z h1 h2=>Int.gcd_eq_one_iff.mp h z (Int.dvd_trans h1 d) h2
theorem ia {a b c:Int} (h:Int.gcd a b=1) (d:c∣b):Int.gcd a c=1:=by
 rw [Int.gcd_comm]
 exact gL (by rw [Int.gcd_comm];exact h) d
theorem kf {a b c:Int} (h:Int.gcd a b=1) (k:Int.gcd a c=1):Int.gcd a (b * c)=1:=by
 rw [Int.gcd_mul_right_right_of_gcd_eq_one h];exact k
theorem jb {a b c:Int} (h:Int.gcd a c=1) (k:Int.gcd b c=1):Int.gcd (a * b) c=1:=by
 rw [Int.gcd_comm]
 exact kf (by rw [Int.gcd_comm];exact h) (by rw [Int.gcd_comm];exact k)
theorem em {a b:Int} (hb:0 < b):∃ g x y:Int,(Int.gcd a b:Int)=g/\0 < g/\a=g * x/\b=g * y/\Int.gcd x y=1:=by
 have gp:=bY (a:=a) hb
 obtain⟨x,hx⟩:=Int.gcd_dvd_left a b
 obtain⟨y,hy⟩:=Int.gcd_dvd_right a b
 refine⟨_,x,y,rfl,gp,hx,hy,?_⟩
 have z:=Int.gcd_ediv_gcd_ediv_gcd (i:=a) (j:=b) (by omega)
 have e1:a / (Int.gcd a b:Int)=x:=by
  conv=>lhs;lhs;rw [hx]
  exact Int.mul_ediv_cancel_left _ (by omega)
 have e2:b / (Int.gcd a b:Int)=y:=by
  conv=>lhs;lhs;rw [hy]
  exact Int.mul_ediv_cancel_left _ (by omega)
 rw [e1,e2] at z
 exact z
theorem iI {g y b:Int} (hb:0 < b) (hg:0 < g) (e:b=g * y):0 < y:=by
 rcases Int.lt_or_le 0 y with h | h
 ·exact h
 ·have:=Int.mul_le_mul_of_nonneg_left h (Int.le_of_lt hg)
  rw [Int.mul_zero] at this
  omega
def qp (r q:R):R:=
 let d:Int:=(Int.gcd r.2 q.2:Nat)
 let t:=r.1 * (q.2 / d)+q.1 * (r.2 / d)
 let e:Int:=(Int.gcd t d:Nat)
 (t / e,r.2 / d * (q.2 / e))
theorem wJ {r q:R} (hr:lM r) (hq:lM q):qp r q=de r q:=by
 obtain⟨d,u,v,e0,dp,e1,e2,cuv⟩:=em (a:=r.2) hq.pos
 have up:=iI hr.pos dp e1
 have vp:=iI hq.pos dp e2
 obtain⟨e,x,w,f0,ep,f1,f2,cxw⟩:=em (a:=r.1 * v+q.1 * u) dp
 have wp:=iI dp ep f2
 have du:r.2 / d=u:=by rw [e1];exact Int.mul_ediv_cancel_left _ (by omega)
 have dv:q.2 / d=v:=by rw [e2];exact Int.mul_ediv_cancel_left _ (by omega)
 have te:(r.1 * v+q.1 * u) / e=x:=by rw [f1];exact Int.mul_ediv_cancel_left _ (by omega)
 have qe:q.2 / e=w * v:=by rw [e2,f2,Int.mul_assoc];exact Int.mul_ediv_cancel_left _ (by omega)
 have c1:Int.gcd r.1 u=1:=ia hr.cop ⟨d,by rw [e1,Int.mul_comm]⟩
 have c2:Int.gcd q.1 v=1:=ia hq.cop ⟨d,by rw [e2,Int.mul_comm]⟩
 have xd:x∣(r.1 * v+q.1 * u):=⟨e,by rw [f1,Int.mul_comm]⟩
 have t1:Int.gcd (r.1 * v+q.1 * u) u=1:=by
  rw [Int.gcd_comm,Int.gcd_add_mul_right_right,Int.gcd_comm]
  exact jb c1 (by rw [Int.gcd_comm];exact cuv)
 have t2:Int.gcd (r.1 * v+q.1 * u) v=1:=by
  rw [Int.add_comm,Int.gcd_comm,Int.gcd_add_mul_right_right,Int.gcd_comm]
  exact jb c2 cuv
 have cx:Int.gcd x (u * (w * v))=1:=kf (gL t1 xd) (kf cxw (gL t2 xd))
 have z:qp r q=(x,u * (w * v)):=by
  unfold qp
  simp only [e0,du,dv,f0,te,qe]
 rw [z]
 unfold de
 refine (dZ (Int.mul_pos hr.pos hq.pos) (Int.mul_pos up (Int.mul_pos wp vp)) cx ?_).symm
 have k:r.1 * q.2+q.1 * r.2=d * (e * x):=by
  rw [e1,e2,← f1,Int.mul_add]
  rw [Int.mul_left_comm r.1 d v,Int.mul_left_comm q.1 d u]
 rw [k,e1,e2]
 have k2:d * u * (d * v)=d * u * (e * w * v):=by rw [← f2]
 rw [k2]
 ac_rfl
def ko (r q:R):R:=
 let l:Int:=(Int.gcd r.1 q.2:Nat)
 let m:Int:=(Int.gcd q.1 r.2:Nat)
 (r.1 / l * (q.1 / m),r.2 / m * (q.2 / l))
theorem uA {r q:R} (hr:lM r) (hq:lM q):ko r q=eB r q:=by
 obtain⟨l,a,b,e0,lp,e1,e2,cab⟩:=em (a:=r.1) hq.pos
 obtain⟨m,c,d,f0,mp,f1,f2,ccd⟩:=em (a:=q.1) hr.pos
 have bp:=iI hq.pos lp e2
 have dp:=iI hr.pos mp f2
 have z:ko r q=(a * c,d * b):=by
  unfold ko
  simp only [e0,f0]
  rw [show r.1 / l=a by rw [e1];exact Int.mul_ediv_cancel_left _ (by omega),show q.2 / l=b by rw [e2];exact Int.mul_ediv_cancel_left _ (by omega),
   show q.1 / m=c by rw [f1];exact Int.mul_ediv_cancel_left _ (by omega),show r.2 / m=d by rw [f2];exact Int.mul_ediv_cancel_left _ (by omega)]
 have cad:Int.gcd a d=1:=gL (ia hr.cop ⟨m,by rw [f2,Int.mul_comm]⟩) ⟨l,by rw [e1,Int.mul_comm]⟩
 have ccb:Int.gcd c b=1:=gL (ia hq.cop ⟨l,by rw [e2,Int.mul_comm]⟩) ⟨m,by rw [f1,Int.mul_comm]⟩
 rw [z]
 unfold eB
 refine (dZ (Int.mul_pos hr.pos hq.pos) (Int.mul_pos dp bp) (kf (jb cad ccd) (jb cab ccb)) ?_).symm
 rw [e1,e2,f1,f2]
 ac_rfl
theorem wI {r q:R} (hr:lM r) (hq:lM q):lM (de r q):=hJ (Int.mul_pos hr.pos hq.pos)
end B
namespace B
open PySem L2 PyProof.Rows
def E4 (_ j:Int):Prop:=j≠0/\j.natAbs < 2 ^ 4000
theorem tO {X:Cx}:fB X (binaryOp .FloorDiv) (rI E4 fun i j=>.int (i.fdiv j)):=Cf fun i j _ _ _ _ _ hc q=>by
 have h1:j≠0:=hc.1
 have h2:j.natAbs < 2 ^ 4000:=hc.2
 refine floordiv_int h1 q (.inl (PyProof.noPylong_of_log2 ?_))
 exact Nat.lt_trans ((Nat.log2_lt (show j.natAbs≠0 by omega)).mpr h2) (by decide)
def j9 (a b:Int):R:=if b < 0 then fe (-a) (-b) else fe a b
theorem o1 {a b:Int} (h:0 < b):j9 a b=fe a b:=by unfold j9;rw [if_neg (by omega)]
theorem lD {a g:Int} (h:0 < g):a.fdiv g=a / g:=Int.fdiv_eq_ediv_of_nonneg a (by omega)
theorem nL {a g:Int} (h:0 < g):a.fdiv (-g)=-a / g:=by
 have e:a.fdiv (-g)=(-a).fdiv g:=by
  have:=Int.neg_fdiv_neg (-a) g
  rw [Int.neg_neg] at this
  exact this
 rw [e,lD h]
theorem xR (a b:Int):Int.gcd (-a) (-b)=Int.gcd a b:=by simp [Int.gcd]
theorem qK {a b:Int} (hb:b≠0):0 < (Int.gcd a b:Int):=by
 have h:Int.gcd a b≠0:=fun z=>hb (Int.gcd_eq_zero_iff.mp z).2
 omega
theorem zZ {a b:Int} (hb:b≠0) (hz:b.natAbs < 2 ^ 4000):((Int.gcd a b:Nat):Int).natAbs < 2 ^ 4000:=by
 have z:Int.gcd a b≤b.natAbs:=Nat.le_of_dvd (by omega) (by have:=Int.gcd_dvd_right a b;exact Int.natAbs_dvd_natAbs.mpr this)
 have e:((Int.gcd a b:Nat):Int).natAbs=Int.gcd a b:=Int.natAbs_natCast _
 omega
theorem xy {a b:Int} (hb:0 < b):(a.fdiv (Int.gcd a b:Int),b.fdiv (Int.gcd a b:Int))=j9 a b:=by
 rw [o1 hb,lD (bY hb),lD (bY hb)];rfl
theorem xz {a b:Int} (hb:b < 0):(a.fdiv (-(Int.gcd a b:Int)),b.fdiv (-(Int.gcd a b:Int)))=j9 a b:=by
 have g:=qK (a:=a) (b:=b) (by omega)
 unfold j9
 rw [if_pos hb,nL g,nL g]
 unfold fe
 rw [xR]
theorem CK {n:Nat} {a b:Int} (hb:b≠0) (h1:a.natAbs < 2 ^ n) (h2:b.natAbs < 2 ^ n):Wf n (j9 a b):=by
 unfold j9
 split
 ·exact kX (by omega) (by rw [Int.natAbs_neg];exact h1) (by rw [Int.natAbs_neg];exact h2)
 ·exact kX (by omega) h1 h2
def xA (r q:R):R:=fe (r.1 * q.2 - q.1 * r.2) (r.2 * q.2)
def nu (r q:R):R:=j9 (r.1 * q.2) (r.2 * q.1)
structure GU (d:PyData):Prop where
 sh:d.showable=true
 nd:d.hasDict=false
 sz:d.shown.length≤5000
 dp:d.depth≤8
end B
namespace B
theorem fJ {a b:Int} (hb:0 < b):(fe a b).1 * b=a * (fe a b).2:=by
 obtain⟨g,x,y,_,gp,e1,e2,c⟩:=em (a:=a) hb
 have yp:=iI hb gp e2
 have e:x * b=a * y:=by rw [e1,e2];ac_rfl
 rw [dZ hb yp c e]
 exact e
theorem xu {a b:Int} (hb:b≠0):lM (j9 a b)/\(j9 a b).1 * b=a * (j9 a b).2:=by
 unfold j9
 split
 ·rename_i h
  refine⟨hJ (by omega),?_⟩
  have z:=fJ (a:=-a) (b:=-b) (by omega)
  rw [Int.mul_neg,Int.neg_mul] at z
  exact Int.neg_inj.mp z
 ·exact⟨hJ (by omega),fJ (by omega)⟩
theorem xt {a b x y:Int} (hb:b≠0) (hy:0 < y) (g:Int.gcd x y=1) (e:x * b=a * y):j9 a b=(x,y):=by
 unfold j9
 split
 ·refine dZ (by omega) hy g ?_
  rw [Int.mul_neg,Int.neg_mul,e]
 ·exact dZ (by omega) hy g e
theorem zw {r q:R} (hr:lM r) (hq:q.1≠0):eB r (j9 q.2 q.1)=nu r q:=by
 obtain⟨hs,es⟩:=xu (a:=q.2) hq
 have hp:0 < r.2 * (j9 q.2 q.1).2:=Int.mul_pos hr.pos hs.pos
 have ht:=hJ (a:=r.1 * (j9 q.2 q.1).1) hp
 have et:=fJ (a:=r.1 * (j9 q.2 q.1).1) hp
 unfold nu eB
 generalize hS:j9 q.2 q.1=s at hs es hp ht et ⊢
 generalize fe (r.1 * s.1) (r.2 * s.2)=t at ht et ⊢
 refine (xt (Int.mul_ne_zero (by have:=hr.pos;omega) hq) ht.pos ht.cop ?_).symm
 have k:t.1 * (r.2 * q.1) * s.2=r.1 * q.2 * t.2 * s.2:=by
  have a1:t.1 * (r.2 * q.1) * s.2=q.1 * (t.1 * (r.2 * s.2)):=by ac_rfl
  have a2:r.1 * q.2 * t.2 * s.2=r.1 * t.2 * (q.2 * s.2):=by ac_rfl
  rw [a1,et,a2,← es]
  ac_rfl
 exact Int.eq_of_mul_eq_mul_right (by have:=hs.pos;omega) k
end B
namespace B
open PySem PySem.Spec L2 PyProof.Rows
section
variable {prog:Program} {w:World} {A:Around} {E:cJ} {h:Heap} {g:Array GenState} {d:Drawn} {t:Nat} {os:OsState} {K:Fg}
variable {nm q:Str} {C N:Addr} {bs bm bmB:List Value} {hdct:Bool} {sn:List Str} {sub:List Value} {ab:Bool} {col:Option Bool} {dd:Option Addr} {k0 k1 k2 k3 k5:Option Value} {bN newId initId:String}
theorem pj (F:ExcBaseFacts bN newId initId bmB) (T:OwnTail h bmB bm) {cS:List Value} {fI:Addr} {Q:Fin->Shared->Prop} (X:K.In h)
  (hC:h.get? C=some (excClassObj nm q C N bs bm hdct sn sub ab col dd k0 k1 k2 k3 k5 newId)) (hi:PySem.W.findIn K (.ref C) "__init__" = some (some (.ref fI))) (hf:PySem.W.typeIn K (.ref fI)=some (.type "function"))
  (hq:∀ h' e,Heap.MadeExcOf h h' e (.ref C) cS->wpAny (model prog w) A (call (.ref fI) (.ref e :: cS)) (fun r s'=>r=.none/\Q (.done (.ret (.ref e))) s') E ⟨h',g,d,t,os⟩) (hz:cS.length≤sizeLine) :
  wpAny (model prog w) A (Builtin.«type.__call__» ⟨.ref C :: cS,[]⟩) Q E ⟨h,g,d,t,os⟩:=by
 repeat (first
  | with_reducible refine wpAny_loadPart_at hC ?_
  | with_reducible refine wpAny_madeBy_exc hC ?_
  | wp_step)
 refine codeAny_call_builtin_code (Code.quiet_builtin _ F.quiet)
  (wpAny_check_new_subT F T hC ?_)
 refine codeAny_exc_new_subT F T hC ?_ hz
 show wpAny _ _ _ _ _ _
 have up:∀ b o,h.get? b=some o->((h.push { cls:=.type "tuple", data:=.seq cS.toArray }).push
   { cls:=.ref C,data:=.fields #[.ref h.objs.size,.none,.none,.none,.bool false,.none] }).get? b=some o:=fun b o e=>
  Heap.get?_push_of_some _ (Heap.get?_push_of_some _ e)
 have hC₁:=up _ _ hC
 have X₁:=X.keeps up
 have hx:((h.push { cls:=.type "tuple", data:=.seq cS.toArray }).push
   { cls:=.ref C,data:=.fields #[.ref h.objs.size,.none,.none,.none,.bool false,.none] }).get? (h.objs.size+1)=
   some { cls:=.ref C,data:=.fields #[.ref h.objs.size,.none,.none,.none,.bool false,.none] }:=by heap_get
 have hcC:(Value.ref C :: bm).contains (.ref C)=true:=by simp
 unfold isInstance
 repeat (first
  | with_reducible refine wpAny_loadPart_at hx ?_
  | (with_reducible refine wpAny_isSubtype_exc hC₁ ?_
     rw [hcC])
  | wp_step)
 show wpAny _ _ (typeLookup (.ref C) _) _ _ _
 refine (PySem.W.looks_findIn X₁ hi) _ _ _ _ (fun _ _ e=>e) ?_
 refine wpAny_holding (wpAny_bind ?_)
 refine (PySem.W.bind_fn X₁ _ hf) _ _ _ _ (fun _ _ e=>e) ?_
 refine wpAny_bind (wpAny_mono (hq _ (h.objs.size+1)
  ⟨up,Heap.get?_none_of_le (Nat.le_succ _),h.objs.size,hx,Heap.get?_none_of_le (Nat.le_refl _),?_⟩) (fun r s' hr=>?_) fun _ _ y=>y)
 ·exact Heap.get?_push_of_some _ (Heap.get?_push_at rfl rfl)
 ·obtain⟨rfl,hQ⟩:=hr
  wp_walk
  exact hQ
theorem xV (F:ExcBaseFacts bN newId initId bmB) (T:OwnTail h bmB bm) {cS:List Value} {fI:Addr} {Q:cJ} (X:K.In h)
  (hC:h.get? C=some (excClassObj nm q C N bs bm hdct sn sub ab col dd k0 k1 k2 k3 k5 newId)) (hi:PySem.W.findIn K (.ref C) "__init__" = some (some (.ref fI))) (hf:PySem.W.typeIn K (.ref fI)=some (.type "function"))
  (hq:∀ h' e,Heap.MadeExcOf h h' e (.ref C) cS->wpAny (model prog w) (A.under (.builtin "type.__call__" ⟨.ref C :: cS,[]⟩)) (call (.ref fI) (.ref e :: cS)) (fun r s'=>r=.none/\Q (.ref e) s') E ⟨h',g,d,t,os⟩) (hz:cS.length≤sizeLine) :
  wpAny (model prog w) A (call (.ref C) cS) Q E ⟨h,g,d,t,os⟩:=by
 have f1:=tc_lookup
 have f2:=tc_bind (.ref C)
 have hT:(⟨h,g,d,t,os⟩:Shared).TypeIs (.ref C) "type" := ⟨_,hC,rfl⟩
 refine wpAny_call (codeAny_of_tree ?_)
 show wpAny _ _ (callAny (.ref C) _) _ _ _
 repeat (any_goals (first
  | assumption
  | with_reducible refine wpAny_loadPart_at hC ?_
  | wp_step))
 refine⟨rfl,?_⟩
 refine codeAny_call_builtin_at (Code.quiet_builtin _ (by decide +kernel)) entry_typeCall
  (wpAny_check_type_call_sub hC (pj F T X hC hi hf (fun h' e hm=>?_) hz))
 exact hq h' e hm
end
def kl:List Value:=[.type "ValueError", .type "Exception", .type "BaseException", .type "object"]
structure iR (K:Fg) (C:Addr) (bm:List Value):Prop where
 ob:∃ nm q N bs hdct sn sub ab col dd k0 k1 k2 k3 k5,K.lookup C=some (excClassObj nm q C N bs bm hdct sn sub ab col dd k0 k1 k2 k3 k5 "ValueError.__new__")
 tl:∀ h:Heap,K.In h->OwnTail h kl bm
 hd:PySem.W.hasDictIn K C=true
 sa:PySem.W.findIn K (.ref C) "__setattr__" = some (some (.builtin "object.__setattr__"))
theorem zO {h:Heap} {tl:List Value} (T:OwnTail h kl tl) (self:Value):refuseLoop self "__setattr__" tl=pure ():=by
 induction T with
 | base=>exact PySem.F.store_ValueError.passes self
 | own _ _ _ _ ih=>rw [refuseLoop_ref];exact ih
theorem lG {K:Fg} {C:Addr} {bm:List Value} (c:iR K C bm):∃ cd,PySem.W.clsIn K C=some cd/\cd.mro=.ref C :: bm:=by
 obtain⟨nm,q,N,bs,hdct,sn,sub,ab,col,dd,k0,k1,k2,k3,k5,lk⟩:=c.ob
 unfold PySem.W.clsIn
 rw [lk]
 exact⟨_,rfl,rfl⟩
section
variable {prog:Program} {w:World} {A:Around} {s:Shared} {K:Fg} {x C:Addr} {R:Result->Shared->Prop}
theorem mx {ox:Obj} {od:Option Obj} {name:Str} {tk:Tok} {v:Value} {bm:List Value} (X:K.In s.heap) (I:PySem.W.InstAt s.heap x ox C od) (c:iR K C bm) (n:eP K C name)
  (h:∀ b,wpAny (model prog w) A.in1 (Builtin.ObjectAttr.storeInOwnDict (.ref x) (.ref C) (.str name tk) name v b) (fun fin s'=>match fin with
   | .done f=>R (.ok f) s'
   | .again c'=>c'.quiet=true/\codeAny (model prog w) A c' R s') (fun e s'=>R (.error e) s') s) :
  codeAny (model prog w) A (.call (.builtin "object.__setattr__") ⟨[.ref x,.str name tk,v],[]⟩) R s:=by
 have sf:=PySem.F.store_object
 obtain⟨cd,hc,hm⟩:=lG c
 have T:=c.tl _ X
 have hob:(Value.ref C :: bm).contains (.type "object")=true:=by
  rw [List.contains_cons,T.hasType (X := "object") (b:=true) (by decide +kernel),Bool.or_true]
 have isO:PySem.W.Looks (model prog w) s.heap (isInstance (.ref x) (.type "object")) true:=by
  refine I.type.andThen (PySem.W.looks_mroIn X ?_)
  unfold PySem.W.mroIn
  rw [hc]
  show (if cd.mro.isEmpty=true then none else some (cd.mro.contains (.type "object")))=some true
  rw [hm,hob];rfl
 have ms:PySem.W.Looks (model prog w) s.heap (mroOf (.ref C)) (.ref C :: bm):=by
  rw [← hm];exact (PySem.W.looks_clsIn X hc).andThen .now
 refine codeAny_call_builtin sf.slot.plain sf.entry (PySem.W.check_slot (i := "object.__setattr__") (owner := "object") (n := "__setattr__") sf.kind sf.split isO (sf.args _ _ _) ?_)
 rw [PySem.W.osa_eq,refuse_eq]
 refine wpAny_bind (wpAny_bind (I.type.here (wpAny_bind (ms.here ?_))))
 rw [refuseLoop_ref,zO T]
 refine wpAny_pure (wpAny_bind (I.type.here (wpAny_bind ((PySem.W.looks_findIn X n).here (wpAny_bind ?_)))))
 exact PySem.W.Looks.here (r:=none) .now (h _)
end
def E2 (a C:Addr) (dx:Option Addr):Heap->Prop:=fun h=>∃ t:Addr,h.get? a=some { cls:=.ref C,dict:=dx,data:=.fields #[.ref t,.none,.none,.none,.bool false,.none] }
def jl (a C:Addr) (dx:Option Addr):HO:=.ext (E2 a C dx)
theorem xW {P:Program} {w:World} {H:Hp} {h:Heap} {a C:Addr} {dx:Option Addr} (e:E2 a C dx h):ObjOk P w H h a (jl a C dx):=
 ⟨e,let ⟨_,q⟩:=e;⟨_,q⟩,fun _ _ ⟨t,q⟩ k=>⟨t,k _ q⟩⟩
def iN (H:Hp) (a:Addr):Hp:=fun b=>if b=a then none else H b
theorem dB {H:Hp} {a:Addr}:iN H a a=none:=by unfold iN;rw [if_pos rfl]
theorem iM {H:Hp} {a b:Addr} (h:b≠a):iN H a b=H b:=by unfold iN;rw [if_neg h]
section
variable {X:Cx} {pins:cf} {σ:L2.St} {H:Hp} {s:Shared} {a C:Addr} {dx:Option Addr}
theorem Inv.forget {φ:Heap->Prop} (I:L2.Inv X pins σ H s) (e:H a=some (.ext φ)) (new:X.s₀.heap.get? a=none):L2.Inv X pins σ (iN H a) s:=by
 have none_of:∀ b,H b=none->iN H a b=none:=fun b h=>by
  by_cases z:b=a
  ·rw [z];exact dB
  ·rw [iM z];exact h
 refine⟨I.ok,I.os,I.bare,⟨I.base.keep,I.base.slot,fun b o q n hx=>none_of b (I.base.free b o q n hx),I.base.there,fun b xs q=>?_,fun b o u q=>?_,fun b ps q=>?_⟩,I.loc,I.cell,none_of _ I.free,fun x c q=>none_of _ (I.freeC x c q),fun p hp=>?_,fun b o q=>?_,I.len⟩
 ·have z:=I.base.tups b xs q
  rw [iM (fun k=>by rw [k,e] at z;cases z)];exact z
 ·have z:=I.base.frzs b o u q
  rw [iM (fun k=>by rw [k,e] at z;cases z)];exact z
 ·obtain⟨m,z⟩:=I.base.tbls b ps q
  exact⟨m,by rw [iM (fun k=>by rw [k,e] at z;cases z)];exact z⟩
 ·obtain⟨p1,p2,p3⟩:=I.pin p hp
  exact⟨p1,none_of _ p2,p3⟩
 ·have nb:b≠a:=fun z=>by rw [z,dB] at q;cases q
  rw [iM nb] at q
  refine (I.hok b o q).stay (fun c u _ z=>z) (fun c z=>?_) (fun c xs z=>?_)
  ·rw [iM (fun k=>by rw [k,e] at z;cases z)];exact z
  ·rw [iM (fun k=>by rw [k,e] at z;cases z)];exact z
end
theorem ObjOk.get {P:Program} {w:World} {H:Hp} {h:Heap} {a:Addr} {o:HO} (x:L2.ObjOk P w H h a o):∃ u,h.get? a=some u:=by
 cases o with
 | lst xs=>obtain⟨_,_,_,_,e⟩:=x;exact⟨_,e⟩
 | tup xs=>obtain⟨_,_,_,o,e,_⟩:=x;exact⟨_,e⟩
 | dK kvs=>obtain⟨_,_,_,_,o,_,_,e,_⟩:=x;exact⟨_,e⟩
 | dT kvs=>obtain⟨_,_,_,_,o,_,_,e,_⟩:=x;exact⟨_,e⟩
 | set S n=>obtain⟨o,_,_,_,e,_⟩:=x;exact⟨_,e⟩
 | ins C dx fs=>obtain⟨_,_,_,e,_⟩:=x;exact⟨_,e⟩
 | own y=>exact x
 | xd fs=>obtain⟨_,⟨_,_,_,e,_⟩,_⟩:=x;exact⟨_,e⟩
 | rng lo hi=>obtain⟨_,_,_,e⟩:=x;exact⟨_,e⟩
 | frz ob u=>obtain⟨e,_⟩:=x;exact⟨_,e⟩
 | tbl ps=>exact⟨_,show h.get? a=some _ from x⟩
 | met f y=>exact⟨_,show h.get? a=some _ from x⟩
 | ext φ=>exact x.2.1
def GS (h:Heap) (H:Hp) (x C T:Addr) (a0:Value):Prop:=
 ∃ oe vs oT ts,h.get? x=some oe/\oe.cls=.ref C/\vs[0]?=some a0/\oe.data=.fields vs/\vs[1]?=some (.ref T)/\H T=none/\T≠x/\h.get? T=some oT/\oT.data=.fields ts/\ts[3]?=some .none
def IK (P:Program) (w:World):pG:=fun outer H s E e s'=>∃ (x C T:Addr) (a0:Value) (H':Hp),e=.ref x/\s'.os=s.os/\AllBare s'.gens/\Un (lT outer) [] H H' s.heap s'.heap/\iA P w H' s'.heap/\s.heap.get? x=none/\s.heap.get? T=none/\H' x=none∧
 GS s'.heap H' x C T a0/\E (.ref C) none H'
structure d6 (X:Cx) (pins:cf) (a:Addr):Prop where
 st:X.s₀.heap.get? a=none
 lo:a≠X.env.locals
 ce:∀ x c,X.env.cells.lookup x=some c->c≠a
 pi:∀ p∈X.pn++pins,p.1≠a
 fr:a∉lT X.stack
section
variable {X:Cx} {pins:cf} {σ:L2.St} {H H':Hp} {s:Shared} {a:Addr}
theorem Inv.newAt (I:L2.Inv X pins σ H s) (hex:X.ex=[]) (h:s.heap.get? a=none):d6 X pins a where
 st:=by
  cases e:X.s₀.heap.get? a with
  | none=>rfl
  | some o=>
   obtain⟨o',q⟩:=I.base.there a o e (by rw [hex];simp)
   rw [h] at q;cases q
 lo:=fun z=>by
  obtain⟨m,⟨o,_,_,q,_⟩,_⟩:=I.loc
  rw [← z,h] at q;cases q
 ce:=fun x c e z=>by
  obtain⟨v,o,q,_⟩:=I.cell x c e
  rw [z,h] at q;cases q
 pi:=fun p hp z=>by
  obtain⟨q,_⟩:=I.pin p hp
  rw [z,h] at q;cases q
 fr:=fun z=>by
  obtain⟨_,o,q,_⟩:=I.stack.mem z
  rw [h] at q;cases q
end
section
variable {X:Cx} {pins:cf} {σ:L2.St} {H:Hp} {s:Shared} {a:Addr} {o:HO}
theorem Inv.adopt (I:L2.Inv X pins σ H s) (na:d6 X pins a) (ha:H a=none) (hex:X.ex=[]) (new:L2.ObjOk X.prog X.w (upd H a o) s.heap a o):L2.Inv X pins σ (upd H a o) s:=by
 have keep:∀ b u,H b=some u->upd H a o b=some u:=fun b u q=>by rw [aJ (aV q ha)];exact q
 have nn:∀ b,b≠a->H b=none->upd H a o b=none:=fun b nb q=>by rw [aJ nb];exact q
 refine⟨I.ok,I.os,I.bare,⟨I.base.keep,I.base.slot,fun b u q n hx=>nn b (fun z=>by rw [z,na.st] at q;cases q) (I.base.free b u q n hx),I.base.there,fun b xs q=>keep _ _ (I.base.tups b xs q),fun b u v q=>keep _ _ (I.base.frzs b u v q),fun b ps q=>?_⟩,I.loc,I.cell,nn _ na.lo.symm I.free,fun x c q=>nn _ (na.ce x c q) (I.freeC x c q),fun p hp=>?_,fun b u q=>?_,I.len⟩
 ·obtain⟨m,z⟩:=I.base.tbls b ps q
  exact⟨m,keep _ _ z⟩
 ·obtain⟨p1,p2,p3⟩:=I.pin p hp
  exact⟨p1,nn _ (na.pi p hp) p2,p3⟩
 ·by_cases z:b=a
  ·subst z
   rw [af] at q;cases q
   exact new
  ·rw [aJ z] at q
   exact (I.hok b u q).stay (fun c v _ w=>w) (fun c w=>keep _ _ w) (fun c xs w=>keep _ _ w)
theorem Inv.none_of (I:L2.Inv X pins σ H s) (h:s.heap.get? a=none):H a=none:=by
 cases q:H a with
 | none=>rfl
 | some o=>obtain⟨u,z⟩:=ObjOk.get (I.hok a o q);rw [h] at z;cases z
end
structure XC (K:Fg) (C f:Addr) (bm:List Value):Prop where
 ob:∃ nm q N bs hdct sn sub ab col dd k0 k1 k2 k3 k5,K.lookup C=some (excClassObj nm q C N bs bm hdct sn sub ab col dd k0 k1 k2 k3 k5 "ValueError.__new__")
 tl:∀ h:Heap,K.In h->OwnTail h kl bm
 init:PySem.W.findIn K (.ref C) "__init__" = some (some (.ref f))
 fn:PySem.W.typeIn K (.ref f)=some (.type "function")
 kp:PySem.W.keepIn K (.ref C)=true
 cl:iR K C bm
section
variable {X:Cx} {k:Nat} {f C:Addr} {fd:FuncData} {ps:List Str} {sp:Sp} {bm:List Value}
theorem yQ {pins:cf} {σ:L2.St} {H:Hp} {s:Shared} {Q:Addr->Hp->Prop} {us:List Value} {vs:List V} {E':cJ} (M:XC X.K C f bm) (hex:X.ex=[]) (F:bK X.prog X.w X.K X.mg X.base d9 k f fd ps sp) (hr:dD (k+1) X.A) (hb:bi X.K fd ps [])
  (I:L2.Inv X pins σ H s) (r:bf vs us) (hz:us.length≤sizeLine) (h:∀ a,H a=none->sp (.ref a :: vs) (upd H a (jl a C none)) (fun v H2=>v=.non/\Q a H2) E0) :
  wpAny (model X.prog X.w) X.A (call (.ref C) us) (fun v s'=>∃ a H',v=.ref a/\d6 X pins a/\L2.Inv X pins σ H' s'/\Q a H') E' s:=by
 obtain⟨nm,q,N,bs,hdct,sn,sub,ab,col,dd,k0,k1,k2,k3,k5,lk⟩:=M.ob
 obtain⟨hp,g,d,t,os⟩:=s
 refine xV PySem.F.excBase_ValueError (M.tl hp I.kIn) I.kIn (I.kIn _ _ lk) M.init M.fn (fun h' e hm=>?_) hz
 have na:=B.Inv.newAt I hex hm.new
 have he:=B.Inv.none_of I hm.new
 obtain⟨tt,ho,_⟩:=hm.there
 have I1:L2.Inv X pins σ H ⟨h',g,d,t,os⟩:=I.kept (t':=t) hm.keeps
 have I2:L2.Inv X pins σ (upd H e (jl e C none)) ⟨h',g,d,t,os⟩:=B.Inv.adopt I1 na he hex (xW ⟨tt,ho⟩)
 have hq:=h e he
 have r2:bf (V.ref e :: vs) (Value.ref e :: us):=.cons rfl r
 have hl:(Value.ref e :: us).length=ps.length:=by
  have z:=r2.length
  rw [F.len _ _ _ _ hq] at z
  exact z.symm
 have hbd:=hb ⟨h',g,d,t,os⟩ (Value.ref e :: us) I2.kIn (by rw [List.append_nil];exact hl)
 rw [List.append_nil] at hbd
 refine wpAny_call (codeAny_mono (F.run _ X.stack _ _ ⟨Value.ref e :: us,[]⟩ (Value.ref e :: us) _ _ E0 (hr.make C us []) (I2.env0.make C us []) hbd r2 hq) fun r s' hq'=>?_)
 cases r with
 | error e=>exact False.elim hq'
 | ok fl=>
  cases fl with
  | ret u=>
   obtain⟨v,H',I3,rv,ev,q3⟩:=I2.after hq'
   subst ev
   exact⟨rv,e,H',rfl,na,I3,q3⟩
  | next=>exact False.elim hq'
  | brk=>exact False.elim hq'
  | cont=>exact False.elim hq'
def GT (X:Cx) (E:XK):Prop:=∀ (pins:cf) (σ:L2.St) (H:Hp) (s:Shared) (a C:Addr) (oe:Obj) (vs:Array Value) (a0:Value),L2.Inv X pins σ H s->H a=none->d6 X pins a->s.heap.get? a=some oe->oe.data=.fields vs→
 vs[0]?=some a0->vs[1]?=some .none->oe.cls=.ref C->E (.ref C) none H->X.xe (.ref a) s
theorem uU {M:Model} {A:Around} {E:cJ} {env:Env} {nm q:Str} {N:Addr} {bs:List Value} {hdct:Bool} {sn:List Str} {sub:List Value} {ab:Bool} {col:Option Bool} {dd:Option Addr} {k0 k1 k2 k3 k5:Option Value} {newId:String}
  {s:Shared} {x:Sem Value} {Q:Flow->Shared->Prop} (hbase:bm.contains (.type "BaseException")=true) (hh:A.handled=none)
  (h:wpAny M A x (fun v s₁=>∃ e t dx,v=.ref e/\s₁.heap.get? C=some (excClassObj nm q C N bs bm hdct sn sub ab col dd k0 k1 k2 k3 k5 newId)∧
   s₁.heap.get? e=some { cls:=.ref C,dict:=dx,data:=.fields #[.ref t,.none,.none,.none,.bool false,.none] }/\E (.ref e) s₁) E s) :
  wpAny M A (raiseStmt env (some x) none) Q E s:=by
 have hcB:(Value.ref C :: bm).contains (.type "BaseException")=true:=by rw [List.contains_cons,hbase,Bool.or_true]
 unfold raiseStmt
 refine wpAny_bind (wpAny_mono h (fun v s₁ h₁=>?_) fun _ _ y=>y)
 obtain⟨e,t,dx,rfl,hC,he,hE⟩:=h₁
 obtain⟨hp,g,d,tk,os⟩:=s₁
 repeat (first
  | with_reducible refine wpAny_loadPart_at he ?_
  | with_reducible refine wpAny_loadPart_at hC ?_
  | (with_reducible refine wpAny_isSubtype_exc hC ?_
     rw [hcB])
  | wp_step)
 exact wpAny_raiseNew_none hh hE
def FG (C:Addr) (sp:Sp) (E:XK) (t:TA):TS:=fun _ σ H=>t σ H fun vs H1=>vs.length≤sizeLine/\∀ a,H1 a=none->sp (.ref a :: vs) (upd H1 a (jl a C none)) (fun v H2=>v=.non/\(∃ dx,H2 a=some (jl a C dx))/\E (.ref C) none (iN H2 a)) E0
end
section
variable {X:Cx} {pins:cf} {σ:L2.St} {H:Hp} {s:Shared} {a C T:Addr} {a0:Value}
end
def fC (N:List Str):L2.St:=List.replicate N.length none
theorem xM {X:Cx} {pins:cf} {σ:L2.St} {H:Hp} {s:Shared} (I:L2.Inv X pins σ H s):L2.Inv X pins (fC X.N) H s:=
 I.weak (by rw [I.len];exact List.length_replicate) fun i v q=>by
  unfold fC at q
  rw [List.getElem?_replicate] at q
  split at q <;> cases q
def Io (X:Cx) (pins:cf) (R:Addr->Hp->Prop):cJ:=fun e s=>∃ (x C T:Addr) (a0:Value) (H:Hp),e=.ref x/\L2.Inv X pins (fC X.N) H s/\H x=none/\d6 X pins x/\d6 X pins T/\GS s.heap H x C T a0/\R C H
def GN (X:Cx) (pins:cf) (R:Addr->Hp->Prop):Cx:={ X with pn:=X.pn++pins,xe:=Io X pins R }
def nH (X:Cx) (e:Addr):Cx:={ X with A:=X.A.mark (some (.ref e)),calm:=false,xe:=fun _ _=>False }
section
variable {X:Cx} {pins pins':cf} {σ:L2.St} {H:Hp} {s:Shared} {R:Addr->Hp->Prop} {e:Addr}
theorem Ar (I:L2.Inv X pins σ H s):L2.Inv (nH X e) pins σ H s:=
 ⟨⟨I.ok.mod,I.ok.kind,I.ok.glob,I.ok.blt,I.ok.above,I.ok.inj,I.ok.has,I.ok.cab,(fun z=>nomatch z),I.ok.frames,I.ok.stk,I.ok.exf,I.ok.bs,I.ok.bsz,I.ok.noex,I.ok.exfs,I.ok.funs,I.ok.frf⟩,I.os,I.bare,I.base,I.loc,I.cell,I.free,I.freeC,I.pin,I.hok,I.len⟩
theorem tQ (ok:X.Ok) (I:L2.Inv (nH X e) pins σ H s):L2.Inv X pins σ H s:=
 ⟨ok,I.os,I.bare,I.base,I.loc,I.cell,I.free,I.freeC,I.pin,I.hok,I.len⟩
end
def G5 (N:List Str) (R:Addr->Hp->Prop) (Ok:Addr->Prop) (tb:TS) (th:TS):TS:=fun D σ H=>tb D σ H/\∀ C H',R C H'->Ok C/\th D (fC N) H'
section
variable {X:Cx} {R:Addr->Hp->Prop} {body:List Stmt} {b₀:Stmt} {suite:List Stmt} {x:Str} {p hpos pos:Pos} {u:Value} {tb th:TS}
end
section
variable {X:Cx} {o value:Expr} {f:Str} {ta tv:TE} {pos' pos:Pos}
def GF (K:Fg) (ta tv:TE) (f:Str):TS:=fun D σ H=>tv σ H fun _ H1=>ta σ H1 fun x H2=>∃ a C bm,x=.ref a/\H2 a=some (jl a C none)/\iR K C bm/\eP K C f/\∀ d,D.nx σ (upd H2 a (jl a C (some d)))
end
def Iq (R:Addr->Hp->Prop):XK:=fun v _ H=>∃ C,v=.ref C/\R C H
theorem jn (a:Addr):(Value.ref a :: kl).contains (.type "BaseException")=true:=by rw [List.contains_cons,(by decide +kernel:kl.contains (.type "BaseException")=true),Bool.or_true]
def kr (es:Array DictEntry):Bool:=es.toList.all fun e=>match e.key with
 | .str _ _=>true
 | _=>false
theorem rC {es:Array DictEntry} (h:kr es=true):StrKeys es:=fun e he=>by
 have z:=List.all_eq_true.mp h e (Array.mem_toList_iff.mpr he)
 revert z
 cases e.key <;> intro z <;> first | exact⟨_,_,rfl⟩ | (cases z)
theorem Dx {K:Fg} {C f B0 NB:Addr} {nm q nmB qB:Str} {N:Addr} {bs bsB:List Value} {hdct hdctB:Bool} {sn snB:List Str} {sub subB:List Value} {ab abB:Bool} {col colB:Option Bool} {dd ddB:Option Addr} {k0 k1 k2 k3 k5 j0 j1 j2 j3 j5:Option Value}
  {oc:Value} {od:Option Addr} {es:Array DictEntry} {n:Nat} {sl:Array (Option Value)}
  (lc:K.lookup C=some (excClassObj nm q C N bs (.ref B0 :: [.type "ValueError", .type "Exception", .type "BaseException", .type "object"]) hdct sn sub ab col dd k0 k1 k2 k3 k5 "ValueError.__new__"))
  (lb:K.lookup B0=some (excClassObj nmB qB B0 NB bsB [.type "ValueError", .type "Exception", .type "BaseException", .type "object"] hdctB snB subB abB colB ddB j0 j1 j2 j3 j5 "ValueError.__new__"))
  (ln:K.lookup NB=some ⟨oc,od,.dict es n,sl⟩) (hs:kr es=true) (hn:(nsFind es "__init__").isNone=true)
  (fi:PySem.W.findIn K (.ref C) "__init__" = some (some (.ref f))) (ti:PySem.W.typeIn K (.ref f)=some (.type "function")) (kc:PySem.W.keepIn K (.ref C)=true) (hh:PySem.W.hasDictIn K C=true) (sa:PySem.W.findIn K (.ref C) "__setattr__" = some (some (.builtin "object.__setattr__"))):XC K C f (.ref B0 :: kl):=
 have ob:∃ nm q N bs hdct sn sub ab col dd k0 k1 k2 k3 k5,K.lookup C=some (excClassObj nm q C N bs (.ref B0 :: kl) hdct sn sub ab col dd k0 k1 k2 k3 k5 "ValueError.__new__"):=⟨_,_,_,_,_,_,_,_,_,_,_,_,_,_,_,lc⟩
 have tl:∀ h:Heap,K.In h->OwnTail h kl (.ref B0 :: kl):=fun h X=>.own (X _ _ lb) ⟨_,es,n,X _ _ ln,rfl,rC hs,fun _=>rfl⟩ (Option.isNone_iff_eq_none.mp hn) .base
 ⟨ob,tl,fi,ti,kc,ob,tl,hh,sa⟩
structure sU (K:Fg) (C:Addr):Prop where
 ga:PySem.W.findIn K (.ref C) "__getattribute__" = some (some (.builtin "BaseException.__getattribute__"))
 gn:PySem.W.findIn K (.ref C) "__getattr__" = some none
 cl:PySem.W.findIn K (.ref C) "__class__" = some (some (.builtin "object.__class__"))
 cg:PySem.W.specialIn K (.builtin "object.__class__") "__get__" = some (some (.builtin "getset_descriptor.__get__"))
 ct:PySem.W.takesIn K (.builtin "object.__class__")=some true
section
variable {prog:Program} {w:World} {A:Around} {E:cJ} {s:Shared} {K:Fg} {x C:Addr} {ox:Obj} {odo:Option Obj} {bm:List Value} {name:Str} {tk:Tok} {R:Result->Shared->Prop}
theorem qO {fill ex:Bool} {Q:cJ} (X:K.In s.heap) (I:PySem.W.InstAt s.heap x ox C odo) (g:sU K C)
  (h:codeAny (model prog w) A (.call (.builtin "BaseException.__getattribute__") ⟨[.ref x,.str name tk],[]⟩) (fun r s'=>∃ v,r=.ok (.ret v)/\PySem.W.handedIn v=true/\Q v s') s) :
  wpAny (model prog w) A (getAttrBy (.ref x) (.str name tk) fill ex) Q E s:=by
 have FB:=PySem.F.attrBase_ValueError
 unfold getAttrBy
 refine wpAny_holding (wpAny_bind (I.type.here (wpAny_bind ((PySem.W.looks_findIn X g.ga).here ?_))))
 have e2:(Value.builtin "BaseException.__getattribute__" == Value.builtin "object.__getattribute__")=false:=by decide +kernel
 dsimp only
 rw [e2,Bool.and_false,if_neg Bool.false_ne_true]
 unfold getAttrByItsOwn hookBefore
 rw [if_pos (show onTheHeap (Value.ref C)=true from rfl)]
 refine wpAny_bind ((PySem.W.looks_findIn X g.gn).here (wpAny_bind (wpAny_attempt (wpAny_holding ?_))))
 unfold callGetattribute
 rw [if_neg (by cases ex <;> decide)]
 unfold boundAndCalled
 rw [FB.ga.bind (.ref x)]
 refine wpAny_bind (wpAny_pure (wpAny_call (codeAny_mono h fun r s' hq=>?_)))
 obtain⟨v,rfl,hh,q⟩:=hq
 exact PySem.W.handed_on hh q
theorem HL {X:K.In s.heap} (I:PySem.W.InstAt s.heap x ox C odo) (c:iR K C bm) (T:String) (hT:kl.contains (.type T)=true):PySem.W.Looks (model prog w) s.heap (isInstance (.ref x) (.type T)) true:=by
 obtain⟨cd,hc,hm⟩:=lG c
 have hob:(Value.ref C :: bm).contains (.type T)=true:=by
  rw [List.contains_cons,(c.tl _ X).hasType (X:=T) (b:=true) hT,Bool.or_true]
 refine I.type.andThen (PySem.W.looks_mroIn X ?_)
 unfold PySem.W.mroIn
 rw [hc]
 show (if cd.mro.isEmpty=true then none else some (cd.mro.contains (.type T)))=some true
 rw [hm,hob];rfl
theorem qP (X:K.In s.heap) (I:PySem.W.InstAt s.heap x ox C odo) (c:iR K C bm)
  (h:wpAny (model prog w) A.in1 (Builtin.«object.__getattribute__» ⟨[.ref x,.str name tk],[]⟩) (fun fin s'=>match fin with
   | .done f=>R (.ok f) s'
   | .again c'=>c'.quiet=true/\codeAny (model prog w) A c' R s') (fun e s'=>R (.error e) s') s) :
  codeAny (model prog w) A (.call (.builtin "BaseException.__getattribute__") ⟨[.ref x,.str name tk],[]⟩) R s:=by
 have FB:=PySem.F.attrBase_ValueError
 exact codeAny_call_builtin FB.ga.plain PySem.F.entry_bexc_ga (PySem.W.check_slot (i := "BaseException.__getattribute__") (owner := "BaseException") (n := "__getattribute__") (by decide +kernel) (by decide +kernel) (HL (X:=X) I c "BaseException" (by decide +kernel)) (PySem.F.args_bexc_ga _ _) h)
theorem z6 {v:Value} (X:K.In s.heap) (I:PySem.W.InstAt s.heap x ox C odo) (c:iR K C bm) (hf:PySem.W.findObj K C odo name=some (.value v)) (h:R (.ok (.ret v)) s) :
  codeAny (model prog w) A (.call (.builtin "BaseException.__getattribute__") ⟨[.ref x,.str name tk],[]⟩) R s:=by
 refine qP X I c ?_
 unfold Builtin.«object.__getattribute__»
 have L:=PySem.W.looks_find (M:=model prog w) X I hf
 refine wpAny_bind (wpAny_pure (wpAny_bind (wpAny_pure (wpAny_bind (I.type.here (wpAny_bind (L.here ?_)))))))
 exact wpAny_pure h
theorem vn {od:Obj} (X:K.In s.heap) (I:PySem.W.InstAt s.heap x ox C (some od)) (c:iR K C bm) (g:sU K C) (h:R (.ok (.ret (.ref C))) s) :
  codeAny (model prog w) A (.call (.builtin "BaseException.__getattribute__") ⟨[.ref x,.str "__class__" tk],[]⟩) R s:=by
 refine qP X I c ?_
 unfold Builtin.«object.__getattribute__»
 obtain⟨cd,hc,hm⟩:=lG c
 have hf:=PySem.W.findObj_data (K:=K) (C:=C) (od:=od) (name := "__class__") (by rw [hc];rfl) g.cl g.cg g.ct
 have L:=PySem.W.looks_find (M:=model prog w) X I hf
 have mo:PySem.W.mroIn K C (.type "object")=some true:=by
  unfold PySem.W.mroIn
  rw [hc]
  show (if cd.mro.isEmpty=true then none else some (cd.mro.contains (.type "object")))=some true
  rw [hm,List.contains_cons,(c.tl _ X).hasType (X := "object") (b:=true) (by decide +kernel),Bool.or_true];rfl
 refine wpAny_bind (wpAny_pure (wpAny_bind (wpAny_pure (wpAny_bind (I.type.here (wpAny_bind (L.here ?_)))))))
 show wpAny _ _ (holding [Value.builtin "object.__class__"] (call (.builtin "getset_descriptor.__get__") [.builtin "object.__class__", .ref x,.ref C]) >>= ret) _ _ _
 exact wpAny_bind (wpAny_holding (wpAny_call (PySem.W.class_get X I mo (wpAny_pure h))))
end
section
variable {K:Fg} {x C:Addr} {ox od:Obj} {bm:List Value}
theorem li (c:iR K C bm) (g:sU K C):PySem.W.KitX K (.ref x) (.ref C) (fun h=>PySem.W.InstAt h x ox C (some od)) where
 ty:=fun _ _ _ I=>I.type
 it:=fun _ _ X _=>by
  obtain⟨nm,q,N,bs,hdct,sn,sub,ab,col,dd,k0,k1,k2,k3,k5,lk⟩:=c.ob
  intro A' Q' E' s' k q
  unfold isType loadHead
  exact wpAny_bind (wpAny_loadPart (k _ _ (X _ _ lk)) (wpAny_pure q))
 ne:=fun h tp dd its n sl X htp=>by
  obtain⟨nm,q,N,bs,hdct,sn,sub,ab,col,dd',k0,k1,k2,k3,k5,lk⟩:=c.ob
  refine Bool.eq_false_iff.mpr fun z=>?_
  have e:C=tp:=Value.ref.inj (beq_iff_eq.mp z)
  subst e
  have z2:=congrArg Obj.cls (Option.some.inj ((X _ _ lk).symm.trans htp))
  exact absurd (show Value.type "type" = Value.type "tuple" from z2) (by decide +kernel)
 ca:=fun {prog w A E Q s} X I k=>by
  unfold getAttr? getAttrBy?
  refine wpAny_bind (wpAny_mkText (wpAny_bind (wpAny_attempt ?_)))
  exact qO (s:={ s with toks:=s.toks+1 }) X I g (vn (s:={ s with toks:=s.toks+1 }) X I c g ⟨_,rfl,rfl,wpAny_pure k⟩)
end
structure gS (S ch:List Addr) (h h':Heap):Prop where
 same:∀ b o,b∉S->b∉ch->h.get? b=some o->h'.get? b=some o
 slot:∀ b o,b∉ch->h.get? b=some o->∃ sl,h'.get? b=some { o with slots:=sl }
theorem gS.trans {S c1 c2:List Addr} {h h1 h2:Heap} (a:gS S c1 h h1) (b:gS S c2 h1 h2):gS S (c1++c2) h h2 where
 same:=fun x o n1 n2 q=>b.same x o n1 (fun z=>n2 (List.mem_append_right _ z)) (a.same x o n1 (fun z=>n2 (List.mem_append_left _ z)) q)
 slot:=fun x o n2 q=>by
  obtain⟨sl,z⟩:=a.slot x o (fun z=>n2 (List.mem_append_left _ z)) q
  obtain⟨sl',z'⟩:=b.slot x _ (fun z=>n2 (List.mem_append_right _ z)) z
  exact⟨sl',z'⟩
theorem gS.upd {S:List Addr} {h:Heap} {T:Addr} {f:Obj->Obj}:gS S [T] h (h.update T f) where
 same:=fun b o _ n q=>by rw [Heap.get?_update_other _ _ (fun z=>n (by rw [z];exact List.mem_singleton.mpr rfl))];exact q
 slot:=fun b o n q=>⟨o.slots,by rw [Heap.get?_update_other _ _ (fun z=>n (by rw [z];exact List.mem_singleton.mpr rfl))];exact q⟩
def ik (h:Heap) (x C T:Addr) (dx:Option Addr) (fl:Value):Prop:=
 ∃ oe vs oT ts,h.get? x=some oe/\oe.cls=.ref C/\oe.dict=dx/\oe.data=.fields vs/\vs[1]?=some (.ref T)/\T≠x/\h.get? T=some oT/\oT.data=.fields ts/\ts[3]?=some fl
section
variable {M:Model} {A:Around} {E:cJ} {s:Shared} {base:Heap} {env:Env} {outer:List Env} {L e C T:Addr} {oe:Obj} {vs:Array Value} {dx:Option Addr} {fl:Value}
theorem vv (f:Array Value->Array Value) (o:Obj):(Obj.mapFields f o).dict=o.dict:=by
 unfold Obj.mapFields;split <;> rfl
theorem xY {hadNext:Bool} {head:Value} {Q:Unit->Shared->Prop} (hfr:A.frames=some (env :: outer)) (hl:s.heap.FunFrames base (env :: outer)) (hf:env.frame=some L)
  (he:s.heap.get? e=some oe) (hd:oe.data=.fields vs) (hsz:1 < vs.size) (hc:oe.cls=.ref C) (hx:oe.dict=dx)
  (h:∀ h' T,gS (lT (env :: outer)) [e] s.heap h'->s.heap.get? T=none->ik h' e C T dx (rawInt L)->Q () { s with heap:=h' }) :
  wpAny M A (do let a ← frameOf env;let pl ← entryPlaceOf L hadNext;let b ← EntryCells.newEntry head a .none (rawInt L) .none pl;setField (.ref e) 1 b) Q E s:=by
 have hene:e∉lT (env :: outer):=fun hm=>by
  obtain⟨_,o,ho,hnf⟩:=hl.mem hm
  rw [he] at ho;cases ho;exact hnf vs hd
 refine wpAny_bind (wpAny_frameOf_fun hfr hl hf fun h1 s1=>wpAny_bind (wpAny_entryPlaceOf fun pl hpl=>?_))
 unfold EntryCells.newEntry newFields
 refine wpAny_bind (wpAny_newObj_type ?_ (hpl.sizeOk5 _ _ _ _ _))
 have he1:h1.get? e=some oe:=(s1.2.1 e hene).trans he
 generalize hob:({ cls:=.type "traceback", dict:=none,data:=.fields ([head,.ref L,.none,rawInt L,.none]++(if pl.isEmpty then List.replicate 6 Value.none else pl)).toArray }:Obj)=ob
 have he2:=Heap.get?_push_of_some (h:=h1) ob he1
 refine wpAny_setField he2 hd hsz (h _ h1.objs.size ⟨fun b o n1 n2 q=>?_,fun b o n2 q=>?_⟩ ?_ ?_)
 ·rw [Heap.get?_update_other _ _ (fun z=>n2 (by rw [z];exact List.mem_singleton.mpr rfl))]
  exact Heap.get?_push_of_some _ ((s1.2.1 b n1).trans q)
 ·obtain⟨sl,z⟩:=s1.2.2 b o q
  refine⟨sl,?_⟩
  rw [Heap.get?_update_other _ _ (fun z=>n2 (by rw [z];exact List.mem_singleton.mpr rfl))]
  exact Heap.get?_push_of_some _ z
 ·exact Heap.get?_none_of_le (Nat.le_of_eq s1.1.symm)
 ·have nT:h1.objs.size≠e:=Nat.ne_of_gt (Heap.lt_size he1)
  have d3:=Obj.data_mapFields hd (·.setIfInBounds 1 (Value.ref h1.objs.size))
  refine⟨_,_,ob,_,Heap.get?_update_self _ he2 (Obj.isFreed_of_fields d3),(Obj.cls_mapFields _ _).trans hc,(vv _ _).trans hx,d3,by simp [hsz],nT,?_,by rw [← hob],?_⟩
  ·rw [Heap.get?_update_other _ _ (Ne.symm nT)]
   exact Heap.get?_push_size h1 (by rw [← hob];rfl)
  ·first | (simp;done) | (rcases hpl with rfl | ⟨_,_,_,_,_,_,_,rfl⟩ <;> simp)
theorem pd {Q:Unit->Shared->Prop} (t:ik s.heap e C T dx fl) (h:∀ h',gS [] [T] s.heap h'->ik h' e C T dx .none->Q () { s with heap:=h' }):wpAny M A (setFlight (.ref e) none) Q E s:=by
 obtain⟨oe,vs,oT,ts,q1,q2,q3,q4,q5,q6,q7,q8,q9⟩:=t
 have z3:3 < ts.size:=(Array.getElem?_eq_some_iff.mp q9).1
 unfold setFlight
 refine wpAny_bind (wpAny_field q1 q4 q5 ?_)
 rw [if_pos (by simp)]
 refine wpAny_setField q7 q8 z3 (h _ gS.upd ?_)
 have d3:=Obj.data_mapFields q8 (·.setIfInBounds 3 ((none:Option Addr).elim Value.none fun f=>rawInt f))
 exact⟨oe,vs,_,_,(Heap.get?_update_other _ _ q6).trans q1,q2,q3,q4,q5,q6,Heap.get?_update_self _ q7 (Obj.isFreed_of_fields d3),d3,by simp [z3]⟩
theorem EA {Q:Unit->Shared->Prop} (hfr:A.frames=some (env :: outer)) (hl:s.heap.FunFrames base (env :: outer)) (hf:env.frame=some L) (he:s.heap.get? e=some oe) (hd:oe.data=.fields vs) (h1:vs[1]?=some .none) (hc:oe.cls=.ref C) (hx:oe.dict=dx)
  (h:∀ h' T,gS (lT (env :: outer)) [e] s.heap h'->s.heap.get? T=none->ik h' e C T dx (rawInt L)->Q () { s with heap:=h' }):wpAny M A (noteFrame (.ref e) env) Q E s:=by
 unfold noteFrame
 simp only [hf]
 refine wpAny_bind (wpAny_field he hd h1 ?_)
 rw [if_neg (by decide)]
 exact xY hfr hl hf he hd (Array.getElem?_eq_some_iff.mp h1).1 hc hx h
theorem Ez {Q:Unit->Shared->Prop} (hfr:A.frames=some (env :: outer)) (hl:s.heap.FunFrames base (env :: outer)) (hf:env.frame=some L) (t:ik s.heap e C T dx .none)
  (h:∀ h' T',gS (lT (env :: outer)) [T,e] s.heap h'->s.heap.get? T'=none->ik h' e C T' dx (rawInt L)->Q () { s with heap:=h' }):wpAny M A (noteFrame (.ref e) env) Q E s:=by
 obtain⟨oe,vs,oT,ts,q1,q2,q3,q4,q5,q6,q7,q8,q9⟩:=t
 unfold noteFrame
 simp only [hf]
 refine wpAny_bind (wpAny_field q1 q4 q5 ?_)
 rw [if_pos (by simp)]
 refine wpAny_bind (wpAny_field q7 q8 q9 ?_)
 rw [if_neg (by simp [rawInt])]
 refine wpAny_bind (wpAny_setField q7 q8 (Array.getElem?_eq_some_iff.mp q9).1 ?_)
 have k1:gS (lT (env :: outer)) [T] s.heap (s.heap.update T (Obj.mapFields (·.setIfInBounds 3 Value.none))):=gS.upd
 have nf:∀ b o,s.heap.get? b=some o->(∀ us,o.data≠.fields us)->b∉[T]:=fun b o hb hn z=>by
  rw [List.mem_singleton.mp z,q7] at hb;cases hb;exact hn ts q8
 refine xY (base:=base) hfr (hl.of_keeps fun b o hb hn=>?_) hf ((Heap.get?_update_other _ _ q6).trans q1) q4 (Array.getElem?_eq_some_iff.mp q5).1 q2 q3 fun h' T' k nT t'=>h h' T' (k1.trans k) ?_ t'
 ·obtain⟨sl,z⟩:=k1.slot b o (nf b o hb hn) hb
  exact⟨_,z,rfl⟩
 ·cases q:s.heap.get? T' with
  | none=>rfl
  | some o=>
   exfalso
   by_cases z:T'=T
   ·have d3:=Obj.data_mapFields q8 (·.setIfInBounds 3 Value.none)
    rw [z,Heap.get?_update_self _ q7 (Obj.isFreed_of_fields d3)] at nT;cases nT
   ·rw [Heap.get?_update_other _ _ (Ne.symm z)] at nT;rw [q] at nT;cases nT
end
def E3 (d:Addr) (fs:List (Str×V)):Heap->Prop:=fun h=>∃ mA,h.Ns1 d mA/\∀ f,f7 (fs.lookup f) (mA f)
def dO (d:Addr) (fs:List (Str×V)):HO:=.ext (E3 d fs)
theorem AY {P:Program} {w:World} {H:Hp} {h:Heap} {d:Addr} {fs:List (Str×V)} (e:E3 d fs h):ObjOk P w H h d (dO d fs):=
 ⟨e,let ⟨_,⟨_,_,_,q,_⟩,_⟩:=e;⟨_,q⟩,fun _ _ ⟨mA,n,r⟩ k=>⟨mA,n.at k,r⟩⟩
theorem uT {a:Option V} {b:Option Value} (r:f7 a b) (h:b≠none):a≠none:=fun z=>by
 subst z
 cases b with
 | none=>exact h rfl
 | some _=>exact r.elim
theorem nk {fs:List (Str×V)} {mA:Str->Option Value} {f:Str} {y:V} {u:Value} (r:∀ g,f7 (fs.lookup g) (mA g)) (q:bo y u):∀ g,f7 (((f,y) :: fs).lookup g) (if g=f then some u else mA g):=fun g=>by
 by_cases z:g=f
 ·subst z
  rw [if_pos rfl,List.lookup_cons_self];exact q
 ·rw [if_neg z,List.lookup_cons,beq_eq_false_iff_ne.mpr z];exact r g
theorem ma {fs:List (Str×V)} {mA:Str->Option Value} (r:∀ g,f7 (fs.lookup g) (mA g)):PySem.Within mA (fs.map (·.1)):=fun g hg=>by
 have z:=uT (r g) hg
 cases q:fs.lookup g with
 | none=>exact absurd q z
 | some v=>
  obtain⟨l1,l2,e,_⟩:=List.lookup_eq_some_iff.mp q
  rw [e];simp
section
variable {X:Cx} {pins:cf} {σ:L2.St} {H:Hp} {s:Shared} {a C:Addr}
theorem setX1 {A:Around} {E:cJ} {f:Str} {y:V} {u:Value} {bm:List Value} {Q:Unit->Shared->Prop} (hex:X.ex=[]) (I:L2.Inv X pins σ H s) (e:H a=some (jl a C none)) (c:iR X.K C bm) (n:eP X.K C f) (ry:bo y u)
  (h:∀ d s',H d=none->d≠a->L2.Inv X pins σ (upd (upd H a (jl a C (some d))) d (dO d [(f,y)])) s'->Q () s'):wpAny (model X.prog X.w) A (setAttr (.ref a) f u) Q E s:=by
 obtain⟨t,hx⟩:=(show ObjOk X.prog X.w H s.heap a (jl a C none) from I.hok a _ e).1
 have J:PySem.W.InstAt s.heap a _ C none:=⟨hx,rfl,rfl,trivial⟩
 refine PySem.W.set_plain I.kIn J c.sa (mx (s:={ s with toks:=s.toks+1 }) I.kIn J c n fun b=>?_)
 obtain⟨cd,hc,hd'⟩:=PySem.W.any_some c.hd
 refine wpAny_bind (wpAny_pure (wpAny_bind (wpAny_bind (wpAny_loadPart hx (wpAny_bind (PySem.W.Looks.here (s:={ s with toks:=s.toks+1 }) (PySem.W.looks_clsIn I.kIn hc) ?_))))))
 rw [hd']
 show wpAny _ _ (alloc { cls:=.type "dict", data:=.dict #[] } >>= fun d=>update a (fun o=>{ o with dict:=some d }) >>= fun _=>dictMade (.ref C) a d) _ _ _
 have la:a < s.heap.objs.size:=Heap.lt_size hx
 have nad:s.heap.objs.size≠a:=Nat.ne_of_gt la
 have g1:=Heap.get?_push_of_some (h:=s.heap) { cls:=.type "dict", data:=.dict #[] } hx
 refine wpAny_bind (wpAny_alloc (wpAny_bind (wpAny_update g1 ?_)))
 have g2:=Heap.get?_update_self (fun o=>{ o with dict:=some s.heap.objs.size }) g1 rfl
 have e1:((s.heap.push { cls:=.type "dict", data:=.dict #[] }).update a fun o=>{ o with dict:=some s.heap.objs.size }).get? s.heap.objs.size=some { cls:=.type "dict", data:=.dict #[] }:=by
  rw [Heap.get?_update_other _ _ nad.symm];exact Heap.get?_push_size s.heap rfl
 have e3:((s.heap.push { cls:=.type "dict", data:=.dict #[] }).update a fun o=>{ o with dict:=some s.heap.objs.size }).Ns s.heap.objs.size (fun _=>none):=
  ⟨_,#[],_,e1,rfl,(fun e he=>absurd he (by simp)),fun _=>rfl⟩
 have keep:∀ b o,b≠a->s.heap.get? b=some o->((s.heap.push { cls:=.type "dict", data:=.dict #[] }).update a fun o=>{ o with dict:=some s.heap.objs.size }).get? b=some o:=fun b o nb q=>by
  rw [Heap.get?_update_other _ _ (Ne.symm nb)];exact Heap.get?_push_of_some _ q
 refine wpAny_pure (a:=some s.heap.objs.size) (wpAny_bind (wpAny_pure (wpAny_bind ?_)))
 refine wpAny_nsSet1 (Heap.Ns1.of_empty e3) fun h' hn2 hs2=>?_
 have rel:∀ g,f7 ([(f,y)].lookup g) (if g=f then some u else none):=nk (fs:=[]) (mA:=fun _=>none) (fun _=>trivial) ry
 obtain⟨oD,esD,epD,hoD,hdD,hcD⟩:=hn2.count (ma rel)
 refine wpAny_bind (wpAny_lookBehind hoD (by rw [hdD];exact pastItsLine_dict (Nat.le_trans hcD (Nat.le_add_left _ _))) ?_)
 have hno:s.heap.get? s.heap.objs.size=none:=Heap.get?_none_of_le (Nat.le_refl _)
 have hH:H s.heap.objs.size=none:=B.Inv.none_of I hno
 refine wpAny_pure (h s.heap.objs.size _ hH nad ?_)
 have ga:h'.get? a=some { cls:=.ref C,dict:=some s.heap.objs.size,data:=.fields #[.ref t,.none,.none,.none,.bool false,.none] }:=(hs2.2 a nad.symm).trans g2
 have I2:L2.Inv X pins σ (upd H a (jl a C (some s.heap.objs.size))) { s with heap:=h',toks:=s.toks+1+1 }:=I.write (x:=a) (e:=a) (o:=jl a C (some s.heap.objs.size)) (h':=h') (by rw [e];trivial) (.inl rfl) (fun b o nb q=>by
  have nb2:b≠s.heap.objs.size:=Nat.ne_of_lt (Heap.lt_size q)
  exact (hs2.2 b nb2).trans (keep b o nb q)) ⟨_,ga⟩ (xW ⟨t,ga⟩)
 exact B.Inv.adopt I2 (B.Inv.newAt I hex hno) (by rw [aJ nad];exact hH) hex (AY ⟨_,hn2,rel⟩)
theorem setX2 {A:Around} {E:cJ} {f:Str} {y:V} {u:Value} {bm:List Value} {d:Addr} {fs:List (Str×V)} {Q:Unit->Shared->Prop} (I:L2.Inv X pins σ H s) (e:H a=some (jl a C (some d))) (ed:H d=some (dO d fs)) (hl:fs.length≤100) (c:iR X.K C bm) (n:eP X.K C f) (ry:bo y u)
  (h:∀ s',L2.Inv X pins σ (upd H d (dO d ((f,y) :: fs))) s'->Q () s'):wpAny (model X.prog X.w) A (setAttr (.ref a) f u) Q E s:=by
 obtain⟨t,hx⟩:=(show ObjOk X.prog X.w H s.heap a (jl a C (some d)) from I.hok a _ e).1
 obtain⟨mA,hn,rel0⟩:=(show ObjOk X.prog X.w H s.heap d (dO d fs) from I.hok d _ ed).1
 obtain⟨od,_,_,hod,_⟩:=id hn
 have J:PySem.W.InstAt s.heap a _ C (some od):=⟨hx,rfl,rfl,hod⟩
 refine PySem.W.set_plain I.kIn J c.sa (mx (s:={ s with toks:=s.toks+1 }) I.kIn J c n fun b=>?_)
 obtain⟨cd,hc,hd'⟩:=PySem.W.any_some c.hd
 refine wpAny_bind (wpAny_pure (wpAny_bind (wpAny_bind (wpAny_loadPart hx (wpAny_bind (PySem.W.Looks.here (s:={ s with toks:=s.toks+1 }) (PySem.W.looks_clsIn I.kIn hc) ?_))))))
 rw [hd']
 refine wpAny_pure (a:=some d) (wpAny_bind (wpAny_pure (wpAny_bind ?_)))
 refine wpAny_nsSet1 (s:={ s with toks:=s.toks+1 }) hn fun h' hn2 hs2=>?_
 have rel:=nk (f:=f) rel0 ry
 obtain⟨oD,esD,epD,hoD,hdD,hcD⟩:=hn2.count (ma rel)
 have hz:esD.size≤101:=by rw [List.length_map,List.length_cons] at hcD;omega
 refine wpAny_bind (wpAny_lookBehind hoD (by rw [hdD];exact pastItsLine_dict (Nat.le_trans hz (by decide))) ?_)
 refine wpAny_pure (h _ ?_)
 exact I.write (x:=d) (e:=d) (o:=dO d ((f,y) :: fs)) (h':=h') (by rw [ed];trivial) (.inl rfl) (fun b o nb q=>(hs2.2 b nb).trans q) ⟨_,hoD⟩ (AY ⟨_,hn2,rel⟩)
end
section
variable {X:Cx} {o value:Expr} {f:Str} {ta tv:TE} {pos' pos:Pos}
def AE (K:Fg) (ta tv:TE) (f:Str):TS:=fun D σ H=>tv σ H fun y H1=>ta σ H1 fun x H2=>∃ a C bm,x=.ref a/\iR K C bm/\eP K C f∧
 ((H2 a=some (jl a C none)/\∀ d,H2 d=none->d≠a->D.nx σ (upd (upd H2 a (jl a C (some d))) d (dO d [(f,y)])))∨
  ∃ d fs,H2 a=some (jl a C (some d))/\H2 d=some (dO d fs)/\fs.length≤100/\D.nx σ (upd H2 d (dO d ((f,y) :: fs))))
theorem zb (hex:X.ex=[]) (ha:PE X o ta) (hv:PE X value tv) (hs:swapsWith value (some (.Attribute o f pos')) pos.line X.env=pure false):PS X (.Assign [.Attribute o f pos'] value pos) (AE X.K ta tv f):=by
 intro pins s σ H D I h
 refine plainObj_wpAny_Assign_Attribute (cA (hv pins s σ H _ I h) fun u s1 ⟨y,H1,I1,ry,q⟩=>cA (ha pins s1 σ H1 _ I1 q) fun ov s2 ⟨x,H2,I2,rx,a,C,bm,ex,c,n,q2⟩=>?_) hs
 subst ex
 obtain rfl:ov=Value.ref a:=rx
 rcases q2 with ⟨ea,k⟩ | ⟨d,fs,ea,ed,hl,k⟩
 ·exact B.setX1 hex I2 ea c n ry fun d s' hd nd I'=>⟨σ,_,I',k d hd nd⟩
 ·exact B.setX2 I2 ea ed hl c n ry fun s' I'=>⟨σ,_,I',k⟩
end
theorem gS.any {S ch:List Addr} {h h':Heap} (k:gS [] ch h h'):gS S ch h h':=⟨fun b o _ n q=>k.same b o (fun z=>by cases z) n q,k.slot⟩
section
variable {X:Cx} {pins:cf} {σ:L2.St} {H:Hp} {s:Shared} {a C T:Addr} {dx:Option Addr} {fl:Value}
theorem Inv.leftK {ch:List Addr} {h':Heap} {tk:Nat} (I:L2.Inv X pins σ H s) (hch:∀ b∈ch,H b=none/\d6 X pins b) (k:gS (lT X.stack) ch s.heap h'):L2.Inv X pins σ H { s with heap:=h',toks:=tk }:=by
 have A6:∀ b o,H b=some o->b∉lT X.stack/\b∉ch:=fun b o q=>
  ⟨(fun z=>by rw [I.stkFree b z] at q;cases q),(fun z=>by rw [(hch b z).1] at q;cases q)⟩
 refine I.call' (s':={ s with heap:=h',toks:=tk }) (ch:=ch) rfl ⟨fun b o q _ n1 n2=>k.same b o n1 n2 q,fun b o q _ n1 n2=>k.slot b o n2 q,fun b o _ n _=>n,fun b o q n2=>?_,fun b xs q=>q,fun b o u q=>q,fun b ps q=>⟨#[],by rw [Array.append_empty];exact q⟩⟩ (fun b o q=>?_) I.bare
  (fun b hb=>⟨.inr (hch b hb).2.st,(hch b hb).2.lo,(hch b hb).2.ce,(hch b hb).2.pi⟩)
 ·obtain⟨sl,z⟩:=k.slot b o n2 q
  exact⟨_,z⟩
 ·refine (I.hok b o q).stay (fun c u hc z=>?_) (fun c z=>z) (fun c xs z=>z)
  rcases hc with rfl | hc
  ·obtain⟨n1,n2⟩:=A6 _ _ q;exact k.same _ _ n1 n2 z
  ·obtain⟨n1,n2⟩:=A6 _ _ hc;exact k.same _ _ n1 n2 z
theorem CI {A:Around} {E':cJ} {Q:Shared->Prop} {oe:Obj} {vs:Array Value} (hA:A.frames=X.A.frames) (I:L2.Inv X pins σ H s) (hex:X.ex=[]) (hst:X.stack=X.env :: X.outer) (hfr:X.env.frame=some X.env.locals)
  (ha:H a=none) (na:d6 X pins a) (hx:s.heap.get? a=some oe) (hd:oe.data=.fields vs) (h1:vs[1]?=some .none) (hc:oe.cls=.ref C) (hdx:oe.dict=dx)
  (h:∀ (s':Shared) (T:Addr),L2.Inv X pins σ H s'->d6 X pins T->H T=none->ik s'.heap a C T dx .none->Q s') :
  wpAny (model X.prog X.w) A (noteFrame (.ref a) X.env) (fun _ s2=>wpAny (model X.prog X.w) A (setFlight (.ref a) none) (fun _ s3=>Q s3) E' s2) E' s:=by
 have hfrm:A.frames=some (X.env :: X.outer):=by rw [hA,I.ok.frames,hst]
 refine EA (base:=X.base) hfrm (by rw [← hst];exact I.stack) hfr hx hd h1 hc hdx fun h1 T k1 nT t1=>?_
 refine pd (s:={ s with heap:=h1 }) t1 fun h2 k2 t2=>?_
 have nt:=B.Inv.newAt I hex nT
 have hT:=B.Inv.none_of I nT
 rw [← hst] at k1
 refine h { s with heap:=h2 } T (B.Inv.leftK (tk:=s.toks) I (fun b hb=>?_) (k1.trans k2.any)) nt hT t2
 simp only [List.cons_append,List.nil_append,List.mem_cons,List.not_mem_nil,or_false] at hb
 rcases hb with rfl | rfl
 ·exact⟨ha,na⟩
 ·exact⟨hT,nt⟩
theorem xo {A:Around} {E':cJ} {Q:Shared->Prop} (hA:A.frames=X.A.frames) (I:L2.Inv X pins σ H s) (hex:X.ex=[]) (hst:X.stack=X.env :: X.outer) (hfr:X.env.frame=some X.env.locals)
  (ha:H a=none) (na:d6 X pins a) (hT:H T=none) (nT:d6 X pins T) (t:ik s.heap a C T dx .none)
  (h:∀ (s':Shared) (T':Addr),L2.Inv X pins σ H s'->d6 X pins T'->H T'=none->ik s'.heap a C T' dx .none->Q s') :
  wpAny (model X.prog X.w) A (noteFrame (.ref a) X.env) (fun _ s2=>wpAny (model X.prog X.w) A (setFlight (.ref a) none) (fun _ s3=>Q s3) E' s2) E' s:=by
 have hfrm:A.frames=some (X.env :: X.outer):=by rw [hA,I.ok.frames,hst]
 refine Ez (base:=X.base) hfrm (by rw [← hst];exact I.stack) hfr t fun h1 T' k1 nT' t1=>?_
 refine pd (s:={ s with heap:=h1 }) t1 fun h2 k2 t2=>?_
 have nt:=B.Inv.newAt I hex nT'
 have hT':=B.Inv.none_of I nT'
 rw [← hst] at k1
 refine h { s with heap:=h2 } T' (B.Inv.leftK (tk:=s.toks) I (fun b hb=>?_) (k1.trans k2.any)) nt hT' t2
 simp only [List.cons_append,List.nil_append,List.mem_cons,List.not_mem_nil,or_false] at hb
 rcases hb with rfl | rfl | rfl
 ·exact⟨hT,nT⟩
 ·exact⟨ha,na⟩
 ·exact⟨hT',nt⟩
theorem C5 {A:Around} {E':cJ} {Q:Shared->Prop} (I:L2.Inv X pins σ H s) (hT:H T=none) (nT:d6 X pins T) (t:ik s.heap a C T dx .none)
  (h:∀ (s':Shared),L2.Inv X pins σ H s'->ik s'.heap a C T dx .none->Q s'):wpAny (model X.prog X.w) A (setFlight (.ref a) none) (fun _ s3=>Q s3) E' s:=by
 refine pd t fun h2 k2 t2=>h _ (B.Inv.leftK (tk:=s.toks) I (fun b hb=>?_) k2.any) t2
 rw [List.mem_singleton.mp hb];exact⟨hT,nT⟩
end
def yy (P:Program) (w:World):pG:=fun outer H s E e s'=>∃ (x C T:Addr) (dx:Option Addr) (H':Hp),e=.ref x/\s'.os=s.os/\AllBare s'.gens/\Un (lT outer) [] H H' s.heap s'.heap/\iA P w H' s'.heap/\s.heap.get? x=none/\s.heap.get? T=none/\H' x=none/\H' T=none∧
 ik s'.heap x C T dx .none/\E (.ref C) dx H'
section
variable {P:Program} {w:World} {K:Fg} {mg:Str->Option Value} {base:Heap} {N:List Str} {qual:Str} {scope:Scope} {f:Addr} {cd:Value} {A:Around} {outer:List Env} {s:Shared} {H:Hp} {E:XK}
theorem wX:f8 (yy P w) (bP (yy P w) P w K mg base N qual scope f cd A outer s H E) E:=by
 intro pins σ H1 s1 e s2 I hx
 obtain⟨x,C,T,dx,H2,rfl,ho,hb,un,hok,nx,nT,hx2,hT2,tr,hE⟩:=hx
 have na:=B.Inv.newAt I rfl nx
 have nt:=B.Inv.newAt I rfl nT
 have I2:L2.Inv (bP (yy P w) P w K mg base N qual scope f cd A outer s H E) pins σ H2 s2:=I.call' ho un hok hb (fun b hb=>by cases hb)
 show wpAny (model P w) _ (leaving _ _) _ _ s2
 unfold leaving
 refine wpAny_bind (xo rfl I2 rfl rfl rfl hx2 na hT2 nt tr fun s3 T' I3 nT' hT' tr'=>?_)
 exact⟨x,C,T',dx,H2,rfl,I3.os,I3.bare,I3.base,I3.hok,na.st,nT'.st,hx2,hT',tr',hE⟩
def sT (X:Cx) (E:XK):Prop:=∀ (pins:cf) (σ:L2.St) (H:Hp) (s:Shared) (a C:Addr) (dx:Option Addr) (oe:Obj) (vs:Array Value),L2.Inv X pins σ H s->H a=none->d6 X pins a->s.heap.get? a=some oe->oe.data=.fields vs→
 vs[1]?=some .none->oe.cls=.ref C->oe.dict=dx->E (.ref C) dx H->X.xe (.ref a) s
theorem jo:sT (bP (yy P w) P w K mg base N qual scope f cd A outer s H E) E:=by
 intro pins σ H1 s1 a C dx oe vs I ha na hx hd h1 hc hdx hE
 show wpAny (model P w) _ (leaving _ _) _ _ s1
 unfold leaving
 refine wpAny_bind (CI rfl I rfl rfl rfl ha na hx hd h1 hc hdx fun s3 T' I3 nT' hT' tr'=>?_)
 exact⟨a,C,T',dx,H1,rfl,I3.os,I3.bare,I3.base,I3.hok,na.st,nT'.st,ha,hT',tr',hE⟩
theorem Fun.okD {x:Str} {st:Stmt} {fd:FuncData} {ps:List Str} {k:Nat} {sp:Sp} (F:Fun K x qual st f fd) (S:aO N ps (ai st)) (len:∀ vs H Q E,sp vs H Q E->vs.length=ps.length)
  (hbody:∀ (cdv:Value) (A:Around) (outer:List Env) (s:Shared) (H:Hp) (vs:List V) (Q:VK) (E:XK),dD k (A.deeper (envOfC qual (ai st) s.heap.objs.size f cdv))->sp vs H Q E→
   ∃ t,nX (bP (yy P w) P w K mg base N qual (ai st) f cdv A outer s H E) (aI st) t/\t { nx:=fun _ H'=>Q .non H',rt:=Q } (eV N vs) H):bK P w K mg base (yy P w) (k+1) f fd ps sp:=by
 obtain⟨oc,od,kV,doc,pm,an,cdv,ct,osl,rfl,lk,hcd⟩:=F.ex
 exact AV lk hcd S len fun A outer s H vs Q E hr hsp=>hbody cdv A outer s H vs Q E hr hsp
end
section
variable {X:Cx} {k:Nat} {f C:Addr} {fd:FuncData} {ps:List Str} {sp:Sp} {bm:List Value}
def tj (C:Addr) (sp:Sp) (E:XK) (t:TA):TS:=fun _ σ H=>t σ H fun vs H1=>vs.length≤sizeLine/\∀ a,H1 a=none->sp (.ref a :: vs) (upd H1 a (jl a C none)) (fun v H2=>v=.non/\∃ dx,H2 a=some (jl a C dx)/\E (.ref C) dx (iN H2 a)) E0
theorem uW {x:Str} {p cpos pos:Pos} {e:Expr} {es:List Expr} {t:TA} {E:XK} (M:XC X.K C f bm) (hbase:bm.contains (.type "BaseException")=true) (hex:X.ex=[]) (tk:sT X E) (F:bK X.prog X.w X.K X.mg X.base d9 k f fd ps sp) (hr:dD (k+1) X.A) (hb:bi X.K fd ps [])
  (hg:Gl X x) (hm:X.mg x=some (.ref C)) (ha:PA X (e :: es) t) (hdb:(x == ("__debug__" : Str))=false:=by decide) (he:starEach (e :: es) X.env=(false,eval e X.env) :: starEach es X.env:=by rfl) (hpl:(backTo cpos (starEach es X.env)).any (·.1)=false:=by rfl) :
  PS X (.Raise (some (.Call (.Name x p) (e :: es) [] cpos)) none pos) (tj C sp E t):=by
 intro pins s σ H D I h
 obtain⟨nm,q,N,bs,hdct,sn,sub,ab,col,dd,k0,k1,k2,k3,k5,lk⟩:=M.ob
 rw [arm_exec_Raise]
 refine wpAny_bind (wpAny_standAt (uU (C:=C) (bm:=bm) (nm:=nm) (q:=q) (N:=N) (bs:=bs) (hdct:=hdct) (sn:=sn) (sub:=sub) (ab:=ab) (col:=col) (dd:=dd) (k0:=k0) (k1:=k1) (k2:=k2) (k3:=k3) (k5:=k5) (newId := "ValueError.__new__") hbase hr.hd ?_))
 refine wpAny_bind (wpAny_mono (Q:=fun v s'=>∃ a H',v=.ref a/\d6 X pins a/\L2.Inv X pins σ H' s'/\∃ dx,H' a=some (jl a C dx)/\E (.ref C) dx (iN H' a)) ?_ (fun v s1 h1=>wpAny_bind (wpAny_standAt (wpAny_pure ?_))) fun _ _ y=>y)
 ·refine wpAny_Call_Name_kw (i5 I hg hm ?_ hdb)
  refine PySem.W.callWith_K (h₀:=X.base) I.ok.mod.kin M.kp (cA (ha cpos pins s σ H _ I h) fun us s1 ⟨vs,H1,I1,r,hz,q⟩=>⟨I1.kIn,?_⟩) he hpl
  exact yQ M hex F hr hb I1 (us:=[]++us) r (by rw [List.nil_append,← r.length];exact hz) q
 ·obtain⟨a,H',rfl,na,I1,dx,hx,hE⟩:=h1
  obtain⟨tt,ho⟩:=(show L2.ObjOk X.prog X.w H' s1.heap a (jl a C dx) from I1.hok a _ hx).1
  exact⟨a,tt,dx,rfl,I1.kIn _ _ lk,ho,tk pins σ (iN H' a) s1 a C dx _ _ (B.Inv.forget I1 hx na.st) dB na ho rfl rfl rfl rfl hE⟩
end
abbrev RX:=Addr->Option Addr->Hp->Prop
def Gg (X:Cx) (pins:cf) (R:RX):cJ:=fun e s=>∃ (x C T:Addr) (dx:Option Addr) (H:Hp),e=.ref x/\L2.Inv X pins (fC X.N) H s/\H x=none/\d6 X pins x/\H T=none/\d6 X pins T/\ik s.heap x C T dx .none/\R C dx H
def iL (X:Cx) (pins:cf) (R:RX):Cx:={ X with pn:=X.pn++pins,xe:=Gg X pins R }
section
variable {X:Cx} {pins pins':cf} {σ:L2.St} {H:Hp} {s:Shared} {R:RX} {e:Addr}
theorem A7 (I:L2.Inv X pins σ H s):L2.Inv (iL X pins R) [] σ H s:=
 ⟨⟨I.ok.mod,I.ok.kind,I.ok.glob,I.ok.blt,I.ok.above,I.ok.inj,I.ok.has,I.ok.cab,I.ok.hd,I.ok.frames,I.ok.stk,I.ok.exf,I.ok.bs,I.ok.bsz,I.ok.noex,I.ok.exfs,I.ok.funs,I.ok.frf⟩,I.os,I.bare,I.base,I.loc,I.cell,I.free,I.freeC,
  fun p hp=>I.pin p (by rw [List.append_nil] at hp;exact hp),I.hok,I.len⟩
theorem ofTryD (I:L2.Inv (iL X pins R) pins' σ H s):L2.Inv X pins σ H s:=
 ⟨⟨I.ok.mod,I.ok.kind,I.ok.glob,I.ok.blt,I.ok.above,I.ok.inj,I.ok.has,I.ok.cab,I.ok.hd,I.ok.frames,I.ok.stk,I.ok.exf,I.ok.bs,I.ok.bsz,I.ok.noex,I.ok.exfs,I.ok.funs,I.ok.frf⟩,I.os,I.bare,I.base,I.loc,I.cell,I.free,I.freeC,
  fun p hp=>I.pin p (List.mem_append_left _ hp),I.hok,I.len⟩
def Gi (R:RX):XK:=fun v dx H=>∃ C,v=.ref C/\R C dx H
theorem B8 (hex:X.ex=[]):f8 (yy X.prog X.w) (iL X pins R) (Gi R):=by
 intro pins' σ H1 s1 e s2 I hx
 obtain⟨x,C,T,dx,H2,rfl,ho,hb,un,hok,nx,nT,hx2,hT2,tr,C',e',hr⟩:=hx
 cases e'
 have na:=B.Inv.newAt I hex nx
 have nt:=B.Inv.newAt I hex nT
 have I2:L2.Inv (iL X pins R) pins' σ H2 s2:=I.call' ho un hok hb (fun b hb=>by cases hb)
 exact⟨x,C,T,dx,H2,rfl,xM (ofTryD I2),hx2,⟨na.st,na.lo,na.ce,fun p hp=>na.pi p (List.mem_append_left _ hp),na.fr⟩,hT2,⟨nt.st,nt.lo,nt.ce,fun p hp=>nt.pi p (List.mem_append_left _ hp),nt.fr⟩,tr,hr⟩
theorem SP.ofTryD {D:iQ} {f:Flow} (h:SP (iL X pins R) [] D f s):SP X pins D f s:=by
 cases f with
 | next=>obtain⟨σ',H',I,q⟩:=h;exact⟨σ',H',B.ofTryD I,q⟩
 | brk=>obtain⟨σ',H',I,q⟩:=h;exact⟨σ',H',B.ofTryD I,q⟩
 | cont=>obtain⟨σ',H',I,q⟩:=h;exact⟨σ',H',B.ofTryD I,q⟩
 | ret u=>obtain⟨v,σ',H',I,r,q⟩:=h;exact⟨v,σ',H',B.ofTryD I,r,q⟩
end
theorem g9 {X:Cx} {pins:cf} {σ:L2.St} {H:Hp} {s:Shared} {M:Model} {A:Around} {E:cJ} {i:Nat} {x:Str} {pos:Pos} {Q:Unit->Shared->Prop} (I:L2.Inv X pins σ H s) (hN:X.N.Nodup) (hi:X.N[i]?=some x) (hk:X.env.scope.names.lookup x=some .local)
  (h:∀ s',L2.Inv X pins (σ.set i none) H s'->Q () s'):wpAny M A (do bindName X.env x .none;unbindBehindTheSuite X.env x pos) Q E s:=by
 obtain⟨m,hn,hl⟩:=id I.loc
 have hiσ:i < σ.length:=by rw [I.len];exact (List.getElem?_eq_some_iff.mp hi).1
 have lt:∀ b o,X.s₀.heap.get? b=some o->b≠X.env.locals:=fun b o e=>Nat.ne_of_lt (Nat.lt_of_lt_of_le (Heap.lt_size e) I.ok.above)
 refine wpAny_nameGoes_keeps hk hn (by rw [I.ok.kind];rfl) fun h' v hn' hs=>h _ ?_
 refine⟨I.ok,I.os,I.bare,⟨fun b o e n hb hx=>(hs.2 b (lt b o e)).trans (I.base.keep b o e n hb hx),fun b o e n hb hx=>?_,I.base.free,fun b o e hx=>?_,I.base.tups,I.base.frzs,I.base.tbls⟩,⟨_,hn',fun j y v' e1 e2 e3=>?_⟩,fun y c e=>?_,I.free,I.freeC,fun p hp=>?_,fun b ob e=>?_,by simpa using I.len⟩
 ·obtain⟨sl,e1⟩:=I.base.slot b o e n hb hx
  exact⟨sl,(hs.2 b (lt b o e)).trans e1⟩
 ·obtain⟨o',e1⟩:=I.base.there b o e hx
  exact⟨o',(hs.2 b (lt b o e)).trans e1⟩
 ·have hj:j≠i:=fun z=>by subst z;rw [List.getElem?_set_self hiσ] at e2;cases e2
  rw [List.getElem?_set_ne (Ne.symm hj)] at e2
  obtain⟨u',r',q⟩:=hl j y v' e1 e2 e3
  refine⟨u',r',?_⟩
  rcases q with ⟨k,e⟩ | ⟨k,c,e,z⟩
  ·refine .inl ⟨k,?_⟩
   have ny:y≠x:=fun e=>hj (kS hN e1 (e ▸ hi))
   show (if y=x then v else m y)=some u'
   rw [if_neg ny];exact e
  ·exact .inr ⟨k,c,e,z.sameBut hs (I.cne y c e)⟩
 ·obtain⟨w',z⟩:=I.cell y c e
  exact⟨w',z.sameBut hs (I.cne y c e)⟩
 ·obtain⟨e,n,ne,nf,d⟩:=I.pin p hp
  exact⟨(hs.2 p.1 ne).trans e,n,ne,nf,d⟩
 ·refine (I.hok b ob e).stay (fun c w' hc q=>(hs.2 c ?_).trans q) (fun _ q=>q) fun _ _ q=>q
  rintro rfl
  rcases hc with rfl | hc
  ·rw [I.free] at e;cases e
  ·rw [I.free] at hc;cases hc
def Gh (a C d:Addr):Heap->Prop:=fun h=>∃ oe,h.get? a=some oe/\oe.cls=.ref C/\oe.dict=some d/\PySem.W.notCls oe=true
def vG (a C d:Addr):HO:=.ext (Gh a C d)
theorem C6 {P:Program} {w:World} {H:Hp} {h:Heap} {a C d:Addr} (e:Gh a C d h):ObjOk P w H h a (vG a C d):=
 ⟨e,let ⟨_,q,_⟩:=e;⟨_,q⟩,fun _ _ ⟨o,q,r⟩ k=>⟨o,k _ q,r⟩⟩
theorem ik.er {h:Heap} {x C T d:Addr} {fl:Value} (t:ik h x C T (some d) fl):Gh x C d h:=by
 obtain⟨oe,vs,oT,ts,q1,q2,q3,q4,_⟩:=t
 exact⟨oe,q1,q2,q3,by unfold PySem.W.notCls;rw [q4]⟩
def EK (i:Nat) (D:iQ):iQ:={ nx:=fun σ H=>D.nx (σ.set i none) H,rt:=D.rt,bk:=fun σ H=>D.bk (σ.set i none) H,ct:=fun σ H=>D.ct (σ.set i none) H }
def Gr (N:List Str) (R:RX) (Ok:Addr->Prop) (tb th:TS):TS:=fun D σ H=>tb D σ H/\∀ C dx H',R C dx H'->Ok C/\th D (fC N) H'
def vS (N:List Str) (i:Nat) (R:RX) (Ok:Addr->Prop) (tb th:TS):TS:=fun D σ H=>tb D σ H/\∀ C dx H',R C dx H'->Ok C/\∃ d,dx=some d/\∀ a,H' a=none->th (EK i D) ((fC N).set i (some (.ref a))) (upd H' a (vG a C d))
section
variable {X:Cx} {R:RX} {body:List Stmt} {b₀:Stmt} {suite:List Stmt} {x:Str} {p hpos pos:Pos} {u:Value} {tb th:TS}
theorem A4 {M:Model} {h:Heap} {a C T:Addr} {dx:Option Addr} {fl:Value} (t:ik h a C T dx fl):PySem.W.Looks M h (typeOf (.ref a)) (.ref C):=by
 obtain⟨oe,_,_,_,q1,q2,_⟩:=t
 rw [← q2]
 exact (PySem.W.Looks.ld q1).andThen .now
theorem wE {i:Nat} {n:Str} (hex:X.ex=[]) (hst:X.stack=X.env :: X.outer) (hfr:X.env.frame=some X.env.locals) (hg:Gl X x) (hm:X.mg x=some u) (hN:X.N.Nodup) (hi:X.N[i]?=some n) (hn:X.env.scope.names.lookup n=some .local)
  (hb:∀ pins,nX (iL X pins R) body tb) (hs:∀ e,nX (nH X e) (b₀ :: suite) th) (hd:(x == ("__debug__" : Str))=false:=by decide) :
  PS X (.Try body [.ExceptHandler (some (.Name x p)) (some n) (b₀ :: suite) hpos] [] [] pos) (vS X.N i R (fun C=>PySem.W.exmOne X.K (.ref C) u=some true) tb th):=by
 intro pins s σ H D I ⟨h1,h2⟩
 refine wpAny_Try_except (wpAny_mono (hb pins [] s σ H D (A7 I) h1) (fun f s1 q=>?_) fun e s1 q=>?_)
 ·have q':=SP.ofTryD q
  cases f with
  | next=>exact wpAny_execs_nil q'
  | brk=>exact q'
  | cont=>exact q'
  | ret u=>exact q'
 ·obtain⟨a,C,T,dx,H1,rfl,I1,ha,na,hT,nT,tr,hR⟩:=q
  obtain⟨hk,d,rfl,hth⟩:=h2 C dx H1 hR
  refine xo rfl I1 hex hst hfr ha na hT nT tr fun s2 T2 I2 nT2 hT2 tr2=>?_
  refine wpAny_handleBy_cons (codeAny_handlers_test ?_) (by intro z;cases z)
  refine i5 (X:=nH X a) (Ar I2) hg hm ?_ hd
  refine PySem.W.Looks.here (s:=s2) (PySem.W.exm_one (M:=model X.prog X.w) I2.kIn (A4 tr2) hk) ?_
  refine codeAny_handlers_suite_as ?_
  refine C5 I2 hT2 nT2 tr2 fun s3 I3 tr3=>?_
  have I4:L2.Inv X pins (fC X.N) (upd H1 a (vG a C d)) s3:=B.Inv.adopt I3 na ha hex (C6 tr3.er)
  refine fD (X:=nH X a) (Ar I4) hN hi (.inl hn) (v:=.ref a) (u:=.ref a) rfl (fun s5 I5=>?_) (.inr hn)
  refine wpAny_mono (hs a pins s5 _ _ (EK i D) I5 (hth a ha)) (fun f s6 q6=>?_) fun _ _ z=>z.elim
  cases f with
  | next=>obtain⟨σ',H',J,q⟩:=q6;exact g9 (tQ I.ok J) hN hi hn fun s' J'=>⟨_,_,J',q⟩
  | brk=>obtain⟨σ',H',J,q⟩:=q6;exact g9 (tQ I.ok J) hN hi hn fun s' J'=>⟨_,_,J',q⟩
  | cont=>obtain⟨σ',H',J,q⟩:=q6;exact g9 (tQ I.ok J) hN hi hn fun s' J'=>⟨_,_,J',q⟩
  | ret u=>obtain⟨v,σ',H',J,r,q⟩:=q6;exact g9 (tQ I.ok J) hN hi hn fun s' J'=>⟨v,_,_,J',r,q⟩
end
def Ea (K:Fg):List V->Hp->VK->Prop:=fun xs H Q=>∃ (a C d:Addr) (fs:List (Str×V)) (bm:List Value) (c:V) (b:Bool),xs=[.ref a,c]/\H a=some (vG a C d)/\H d=some (dO d fs)/\iR K C bm/\sU K C∧
 ((∃ n,c=.ty n/\PySem.W.kitOne K (.ref C) (.type n)=some b)∨(∃ D,c=.ref D/\PySem.W.kitOne K (.ref C) (.ref D)=some b)∨
  ∃ (p:Addr) (cs:List Addr),c=.ref p/\H p=some (.tup (cs.map V.ref))/\PySem.W.kitAny K (.ref C) (cs.map Value.ref)=some b)/\Q (.bl b) H
theorem mh:∀ {cs:List Addr} {us:List Value},bf (cs.map V.ref) us->us=cs.map Value.ref
 | [],_,.nil=>rfl
 | c :: cs,_,.cons r q=>by
  rw [List.map_cons,mh q,(show _=Value.ref c from r)]
theorem yi {X:Cx}:cU X (.builtin "isinstance") (Ea X.K):=by
 intro pins s σ H xs us Q I r h
 obtain⟨a,C,d,fs,bm,c,b,rfl,ea,ed,cl,gx,k,q⟩:=h
 obtain⟨u,u2,rfl,rx,ry⟩:=sY r
 obtain rfl:u=Value.ref a:=rx
 obtain⟨oe,h1,h2,h3,h4⟩:=(show ObjOk X.prog X.w H s.heap a (vG a C d) from I.hok a _ ea).1
 obtain⟨mA,⟨od,es,ep,h5,_⟩,_⟩:=(show ObjOk X.prog X.w H s.heap d (dO d fs) from I.hok d _ ed).1
 have J:PySem.W.InstAt s.heap a oe C (some od):=⟨h1,h2,h4,by rw [h3];exact h5⟩
 rcases k with ⟨n,rfl,e⟩ | ⟨D,rfl,e⟩ | ⟨p,cs,rfl,hp,e⟩
 ·obtain rfl:u2=Value.type n:=ry
  exact PySem.W.kia_one (li cl gx) I.kIn J e (fun z=>nomatch z) fun tk=>⟨.bl b,H,I.tok tk,rfl,q⟩
 ·obtain rfl:u2=Value.ref D:=ry
  exact PySem.W.kia_one (li cl gx) I.kIn J e (fun z=>nomatch z) fun tk=>⟨.bl b,H,I.tok tk,rfl,q⟩
 ·obtain rfl:u2=Value.ref p:=ry
  obtain⟨_,its,rv,o,ho,hc,n,hd⟩:=(show ObjOk X.prog X.w H s.heap p (.tup (cs.map V.ref)) from I.hok p _ hp)
  rw [mh rv] at hd
  obtain⟨oc,odd,oda,osl⟩:=o
  dsimp only at hc hd
  subst hc;subst hd
  exact PySem.W.kia_tup (li cl gx) I.kIn J ho e (fun z=>nomatch z) fun tk=>⟨.bl b,H,I.tok tk,rfl,q⟩
theorem jc {X:Cx} {K:Fg} (h:X.K=K):cU X (.builtin "isinstance") (Ea K):=by
 subst h;exact yi
def qZ (H:Hp) (a C d:Addr):Prop:=H a=some (vG a C d)∨H a=some (jl a C (some d))
section
variable {X:Cx} {pins:cf} {σ:L2.St} {H:Hp} {s:Shared} {a C d:Addr} {fs:List (Str×V)}
theorem qZ.inst (I:L2.Inv X pins σ H s) (h:qZ H a C d) (ed:H d=some (dO d fs)):∃ (oe od:Obj) (mA:Str->Option Value),PySem.W.InstAt s.heap a oe C (some od)/\(∀ name,PySem.W.lookIn name od=some (mA name))/\∀ f,f7 (fs.lookup f) (mA f):=by
 obtain⟨mA,hn,r⟩:=(show ObjOk X.prog X.w H s.heap d (dO d fs) from I.hok d _ ed).1
 obtain⟨od,ho,hl⟩:=nE hn
 rcases h with h | h
 ·obtain⟨oe,h1,h2,h3,h4⟩:=(show ObjOk X.prog X.w H s.heap a (vG a C d) from I.hok a _ h).1
  exact⟨oe,od,mA,⟨h1,h2,h4,by rw [h3];exact ho⟩,hl,r⟩
 ·obtain⟨t,h1⟩:=(show ObjOk X.prog X.w H s.heap a (jl a C (some d)) from I.hok a _ h).1
  exact⟨_,od,mA,⟨h1,rfl,rfl,ho⟩,hl,r⟩
end
def Aw (K:Fg) (ta:TE) (f:Str):TE:=fun σ H Q=>ta σ H fun x H1=>∃ a C d fs bm v,x=.ref a/\qZ H1 a C d/\H1 d=some (dO d fs)/\iR K C bm/\sU K C/\eP K C f/\fs.lookup f=some v/\Q v H1
theorem zp {X:Cx} {e:Expr} {f:Str} {pos:Pos} {ta:TE} {K:Fg} (hK:X.K=K) (he:PE X e ta) (hb:attributeBase e f X.env (eval e X.env)=eval e X.env):PE X (.Attribute e f pos) (Aw K ta f):=by
 subst hK
 intro pins s σ H Q I h
 refine Ag hb (cA (he pins s σ H _ I h) fun u s1 ⟨x,H1,I1,rx,a,C,d,fs,bm,v,ex,ea,ed,c,g,n,l,q⟩=>?_)
 subst ex
 obtain rfl:u=Value.ref a:=rx
 obtain⟨oe,od,mA,J,hl,r⟩:=qZ.inst I1 ea ed
 obtain⟨u',hu,ru⟩:=f7.some_of (v:=v) (o:=mA f) (by rw [← l];exact r f)
 unfold getAttr
 refine wpAny_bind (wpAny_mkText ?_)
 refine qO (s:={ s1 with toks:=s1.toks+1 }) I1.kIn J g ?_
 refine z6 (s:={ s1 with toks:=s1.toks+1 }) I1.kIn J c (PySem.W.findObj_own c.hd n rfl (by rw [hl,hu])) ?_
 exact⟨u',rfl,vh ru,v,H1,I1.tok _,ru,q⟩
def Ht (K:Fg):List V->Hp->VK->Prop:=fun xs H Q=>∃ (a C d:Addr) (fs:List (Str×V)) (bm:List Value) (c:V) (b:Bool),xs=[.ref a,c]/\qZ H a C d/\H d=some (dO d fs)/\iR K C bm/\sU K C∧
 ((∃ n,c=.ty n/\PySem.W.kitOne K (.ref C) (.type n)=some b)∨(∃ D,c=.ref D/\PySem.W.kitOne K (.ref C) (.ref D)=some b)∨
  ∃ (p:Addr) (cs:List Addr),c=.ref p/\H p=some (.tup (cs.map V.ref))/\PySem.W.kitAny K (.ref C) (cs.map Value.ref)=some b)/\Q (.bl b) H
def FH (C:Addr) (sp:Sp) (t:TA):TE:=fun σ H Q=>t σ H fun vs H1=>vs.length≤sizeLine/\∀ a,H1 a=none->sp (.ref a :: vs) (upd H1 a (jl a C none)) (fun v H2=>v=.non/\Q (.ref a) H2) E0
theorem og {X:Cx} {pins:cf} {σ:L2.St} {H:Hp} {s:Shared} {h':Heap} {t':Nat} {fp:List Addr} (I:Inv X pins σ H s)
  (k:∀ b o,b∉fp->s.heap.get? b=some o->h'.get? b=some o) (hf:∀ b∈fp,jh X pins H b):Inv X pins σ H { s with heap:=h',toks:=t' }:=by
 have off:∀ b u,H b=some u->b∉fp:=fun b u e z=>by rw [(hf b z).1] at e;cases e
 refine I.step (g':=s.gens) (d':=s.drawn) (ch:=fp) (fun b hb=>?_) (fun b o _ _ hc e _=>k b o hc e) (fun b o _ _ hc e _=>⟨o.slots,k b o hc e⟩) (fun _ _ _ _ n=>n)
  (fun b o hc e=>⟨o,k b o hc e⟩) (fun _ _ e=>e) (fun _ _ _ e=>e) (fun b ps e=>⟨#[],by rw [e];simp⟩) (fun m hm=>?_) (fun b u e=>?_) I.bare
 ·obtain⟨_,f1,_,f3,f4,f5⟩:=hf b hb
  exact⟨f3,f1,f4,f5⟩
 ·obtain⟨o,es,ep,ho,r⟩:=hm
  exact⟨o,es,ep,k _ o (fun z=>(hf _ z).2.1 rfl) ho,r⟩
 ·refine (I.hok b u e).stay (fun c v hc q=>k c v ?_ q) (fun _ q=>q) fun _ _ q=>q
  rcases hc with z | z
  ·rw [z];exact off b u e
  ·exact off c _ z
section
variable {prog:Program} {w:World} {A:Around} {E:cJ} {s:Shared}
theorem zH {j t:Addr} {k:Nat} {ys:Array Value} {v:Value} {G:cJ} (a:s.heap.IsTupleIter j t k) (b:s.heap.IsTuple t ys) (c:ys[k]?=some v)
  (g:∀ h',h'.IsTupleIter j t (k+1)->Heap.SameBut j s.heap h'->G v { s with heap:=h' }):wpAny (model prog w) A (Builtin.SmallTypes.nextOf (.ref j)) G E s:=by
 obtain⟨o,e1,e2,e3⟩:=id a
 obtain⟨q,f1,_,n,f2⟩:=b
 unfold Builtin.SmallTypes.nextOf
 refine wpAny_bind (wpAny_callSpecial?_slot (name:=Str.ofString "__next__") a.typeIs F.slot_tuple_iterator_next
  (wpAny_call_entry F.slot_tuple_iterator_next a.typeIs F.entry_tuple_iterator_next ?_ (F.args_tuple_iterator_next_1 _)))
 show wpAny (model prog w) _ (field (.ref j) 0 >>= _) _ _ s
 refine wpAny_bind (wpAny_field e1 e3 (x:=.ref t) rfl ?_)
 show wpAny (model prog w) _ (if (Value.ref t == Value.none)=true then _ else _) _ _ s
 rw [if_neg (fun z=>Bool.noConfusion z:¬ ((Value.ref t == Value.none)=true))]
 show wpAny (model prog w) _ (field (.ref j) 1 >>= _) _ _ s
 refine wpAny_bind (wpAny_field e1 e3 (x:=.int k 0) rfl ?_)
 show wpAny (model prog w) _ (seqItems? (.ref t) >>= _) _ _ s
 refine wpAny_bind (wpAny_seqItems f1 f2 ?_)
 simp only [c,Int.toNat_natCast]
 refine wpAny_bind (wpAny_setField e1 e3 (by simp) (wpAny_pure ⟨v,rfl,wpAny_pure (g _ ?_ (Heap.SameBut.update ..))⟩))
 refine⟨_,Heap.get?_update_self _ e1 (Obj.isFreed_of_fields (Obj.data_mapFields e3 _)),(Obj.cls_mapFields ..).trans e2,?_⟩
 rw [Obj.data_mapFields e3];simp [rawInt]
theorem xm {j t:Addr} {k:Nat} {ys:Array Value} {G:cJ} (hh:A.handled=none) (a:s.heap.IsTupleIter j t k) (b:s.heap.IsTuple t ys) (c:ys[k]?=none)
  (g:∀ h' e,Heap.ExtBut j s.heap h'->(∃ o,h'.get? e=some o/\o.cls=.type "StopIteration")->E (.ref e) { s with heap:=h' }):wpAny (model prog w) A (Builtin.SmallTypes.nextOf (.ref j)) G E s:=by
 obtain⟨o,e1,e2,e3⟩:=id a
 obtain⟨q,f1,_,n,f2⟩:=b
 unfold Builtin.SmallTypes.nextOf
 refine wpAny_bind (wpAny_callSpecial?_slot (name:=Str.ofString "__next__") a.typeIs F.slot_tuple_iterator_next
  (wpAny_call_entry F.slot_tuple_iterator_next a.typeIs F.entry_tuple_iterator_next ?_ (F.args_tuple_iterator_next_1 _)))
 show wpAny (model prog w) _ (field (.ref j) 0 >>= _) _ _ s
 refine wpAny_bind (wpAny_field e1 e3 (x:=.ref t) rfl ?_)
 show wpAny (model prog w) _ (if (Value.ref t == Value.none)=true then _ else _) _ _ s
 rw [if_neg (fun z=>Bool.noConfusion z:¬ ((Value.ref t == Value.none)=true))]
 show wpAny (model prog w) _ (field (.ref j) 1 >>= _) _ _ s
 refine wpAny_bind (wpAny_field e1 e3 (x:=.int k 0) rfl ?_)
 show wpAny (model prog w) _ (seqItems? (.ref t) >>= _) _ _ s
 refine wpAny_bind (wpAny_seqItems f1 f2 ?_)
 simp only [c,Int.toNat_natCast]
 refine wpAny_bind (wpAny_rule (wpAny_bind (wpAny_setField e1 e3 (by simp) ?_)))
 show wpAny (model prog w) _ (newExc (.type "StopIteration") [] >>= _) _ _ _
 refine wpAny_bind ?_
 simp only [newTuple,newExc]
 refine wpAny_bind (wpAny_newObj_type ?_ (by size_fits))
 refine wpAny_bind (m:=firstArgMember _ _) (wpAny_of_eq (a:=Value.none) (by first | rfl | (simp only [firstArgMember] <;> rfl)) ?_)
 refine wpAny_newObj_type ?_ (by size_fits)
 simp only [raiseNew]
 refine wpAny_bind (wpAny_handled ?_)
 first | rw [hh] | rw [show A.in1.handled=none from hh]
 refine wpAny_bind (wpAny_pure (wpAny_throw (g _ _ (((Heap.SameBut.update ..).extBut.push _).push _) ⟨_,Heap.get?_push_size _ rfl,rfl⟩)))
structure Ip (z TI TO i1 i2:Addr):Prop where
 a1:TI≠z
 a2:TO≠z
 a3:i1≠z
 a4:i2≠z
 a5:TI≠TO
 a6:TI≠i1
 a7:TI≠i2
 a8:TO≠i1
 a9:TO≠i2
 b1:i1≠i2
end
theorem n9 {X:Cx} {pins:cf} {σ:L2.St} {H:Hp} {s:Shared} {h':Heap} {t':Nat} {fp:List Addr} {p:Addr} {v:HO} (I:Inv X pins σ H s)
  (k:∀ b o,b∉fp->s.heap.get? b=some o->h'.get? b=some o) (hf:∀ b∈fp,jh X pins H b) (hp:s.heap.objs.size≤p) (new:ObjOk X.prog X.w (upd H p v) h' p v) :
  Inv X pins σ (upd H p v) { s with heap:=h',toks:=t' }:=by
 have off:∀ b u,H b=some u->b∉fp:=fun b u e z=>by rw [(hf b z).1] at e;cases e
 have hn:H p=none:=I.hok.fresh hp
 have old:∀ b u,H b=some u->upd H p v b=some u:=fun b u e=>by rw [aJ (aV e hn)];exact e
 refine I.step (g':=s.gens) (d':=s.drawn) (ch:=fp) (fun b hb=>?_) (fun b o _ _ hc e _=>k b o hc e) (fun b o _ _ hc e _=>⟨o.slots,k b o hc e⟩) (fun b o _ e n=>?_)
  (fun b o hc e=>⟨o,k b o hc e⟩) (fun b xs e=>old b _ e) (fun b o u e=>old b _ e) (fun b ps e=>⟨#[],by rw [old b _ e];simp⟩) (fun m hm=>?_) (fun b u e=>?_) I.bare
 ·obtain⟨_,f1,_,f3,f4,f5⟩:=hf b hb
  exact⟨f3,f1,f4,f5⟩
 ·rw [aJ (Nat.ne_of_lt (Nat.lt_of_lt_of_le (Heap.lt_size e) hp))];exact n
 ·obtain⟨o,es,ep,ho,r⟩:=hm
  exact⟨o,es,ep,k _ o (fun z=>(hf _ z).2.1 rfl) ho,r⟩
 ·by_cases hb:b=p
  ·subst hb;rw [af] at e;cases e;exact new
  ·rw [aJ hb] at e
   refine (I.hok b u e).stay (fun c v hc q=>k c v ?_ q) (fun c q=>old c _ q) fun c xs q=>old c _ q
   rcases hc with z | z
   ·rw [z];exact off b u e
   ·exact off c _ z
theorem tD {X:Cx} {pins:cf} {σ:L2.St} {H:Hp} {s:Shared} {a b:Addr} {xs:List V} (I:Inv X pins σ H s) (h:aZ X.K H a xs) (f:jh X pins H b):a≠b:=fun z=>by
 subst z
 rcases h with (h | ⟨o,h⟩) | ⟨o,its,n,hk,_⟩
 ·rw [f.1] at h;cases h
 ·rw [f.1] at h;cases h
 ·have e:=I.ok.mod.kin a o hk
  rcases f.2.2.2.1 with z | z
  ·exact I.ok.noex a o e z
  ·rw [(I.ok.bs a o e).1] at z;cases z
def Ij (K:Fg) (a b:Addr):It:=
 ⟨fun i H=>∃ xs ys x y,aZ K H a xs/\aZ K H b ys/\xs[i]?=some x/\ys[i]?=some y,
  fun i H v H'=>∃ p x y,H p=none/\v=.ref p/\H'=upd H p (.tup [x,y])/\(∀ xs,aZ K H a xs->xs[i]?=some x)/\∀ ys,aZ K H b ys->ys[i]?=some y,
  fun i H=>∃ xs ys,aZ K H a xs/\aZ K H b ys/\(xs.length≤i∨ys.length≤i)⟩
def IF (z TI TO i1 i2 a b:Addr) (i:Nat) (h:Heap):Prop:=IsZip h z TI TO .none/\IsPair h TI (.ref i1) (.ref i2)/\(∃ u v,IsPair h TO u v)/\h.IsTupleIter i1 a i/\h.IsTupleIter i2 b i
theorem iC {h h':Heap} {i a:Addr} {n:Nat} (x:h.IsTupleIter i a n) (k:∀ o,h.get? i=some o->h'.get? i=some o):h'.IsTupleIter i a n:=let ⟨o,e,r⟩:=x;⟨o,k o e,r⟩
theorem vP {h h':Heap} {a:Addr} {ys:Array Value} (x:h.IsTuple a ys) (k:∀ o,h.get? a=some o->h'.get? a=some o):h'.IsTuple a ys:=let ⟨o,e,r⟩:=x;⟨o,k o e,r⟩
abbrev zA (h:Heap) (a:Addr):Heap:=h.push { cls:=.type "tuple_iterator", data:=.fields #[.ref a,.int 0 0] }
abbrev zB (h:Heap) (a b:Addr):Heap:=zA (zA h a) b
abbrev zC (h:Heap) (a b:Addr):Heap:=(zB h a b).push { cls:=.type "tuple", data:=.seq #[.ref h.objs.size,.ref (zA h a).objs.size] }
abbrev zD (h:Heap) (a b:Addr):Heap:=(zC h a b).push { cls:=.type "tuple", data:=.seq #[.none,.none] }
abbrev zE (h:Heap) (a b:Addr):Heap:=(zD h a b).push { cls:=.type "zip", data:=.fields #[.none,.bool false,.bool false,.ref (zB h a b).objs.size,.ref (zC h a b).objs.size] }
def HM (K:Fg) (ta:TA):TI:=fun σ H R=>ta σ H fun vs H1=>∃ a b,vs=[.ref a,.ref b]/\(∃ xs,aZ K H1 a xs)/\(∃ ys,aZ K H1 b ys)/\R (Ij K a b) H1
theorem vt {prog:Program} {w:World} {A:Around} (hh:A.handled=none) (it a:Addr) (ne:a≠it) (items:Array Value) :
  Draws prog w A it [it,a] items.size (fun i v=>items[i]?=some v) (fun i h=>h.IsTupleIter it a i/\h.IsTuple a items) where
 live:=fun _ _ st=>let ⟨o,ho,_⟩:=st.1;⟨o,ho⟩
 frame:=fun _ _ _ st hk=>⟨iC st.1 fun o e=>hk it (by simp) o e,vP st.2 fun o e=>hk a (by simp) o e⟩
 item:=fun i s Q E hi st hQ=>by
  have hx:items[i]?=some (items[i]'hi):=Array.getElem?_eq_getElem hi
  exact zH st.1 st.2 hx fun h' i' sb=>hQ _ h' s.toks hx ⟨i',vP st.2 fun o e=>sb.extBut _ _ ne e⟩ sb
 done:=fun s Q E st hE=>xm hh st.1 st.2 (by simp) hE
theorem vq (a:Addr) (xs:Array Value):Meets (Builtin.«enumerate.__new__» ⟨[.type "enumerate", .ref a],[]⟩) (fun _ R s=>s.heap.IsTuple a xs∧
   R (.ok (.ret (.ref (zA s.heap a).objs.size))) { s with heap:=(zA s.heap a).push { cls:=.type "enumerate", data:=.fields #[.none,.bool false,.ref s.heap.objs.size,rawInt 0,.none,.none] } }):=
 .of_wp fun prog w A R s h=>by
  obtain⟨hp,g,d,tk,os⟩:=s;obtain⟨hl,h⟩:=h
  obtain⟨⟨c,dct,dt,sl⟩,ho,hc,n,hd⟩:=id hl
  replace hc:c=.type "tuple" := hc
  replace hd:dt=.seq xs n:=hd
  subst hc hd
  have hsub:=sub_enumerate
  have L:Heap.IsTuple (Shared.heap ⟨hp,g,d,tk,os⟩) a xs:=hl
  wp_walk using AutoSeq1.wpAny_loadPart' ho
  refine wpAny_stack_any fun st=>wpAny_pure ?_
  split
  ·rename_i c _ _ _ _ _
   cases (c == Value.type "enumerate")
   ·wp_walk using AutoSeq1.wpAny_loadPart' ho,wpAny_pyIter_tuple L
    exact⟨_,rfl,h⟩
   ·wp_walk using AutoSeq1.wpAny_loadPart' ho,wpAny_pyIter_tuple L
    exact⟨_,rfl,h⟩
  ·wp_walk using AutoSeq1.wpAny_loadPart' ho,wpAny_pyIter_tuple L
   exact⟨_,rfl,h⟩
theorem sK {prog:Program} {w:World} {A:Around} {E:cJ} {s:Shared} {a:Addr} {items:Array Value} {Q:cJ} (hL:s.heap.IsTuple a items)
  (h:∀ h',IsEnum h' (s.heap.objs.size+1) s.heap.objs.size 0 .none->h'.IsTupleIter s.heap.objs.size a 0->h'.objs.size=s.heap.objs.size+2→
   (∀ b o,s.heap.get? b=some o->h'.get? b=some o)->Q (.ref (s.heap.objs.size+1)) { s with heap:=h' }) :
  wpAny (model prog w) A (call (.type "enumerate") [.ref a]) Q E s:=by
 refine callType_new F.called_enumerate (by decide) (F.typeCall_enumerate_1 _) (F.newCall_enumerate_1 _) (fun obj=>F.args_object_init_2 obj _) F.entry_enumerate_new
  (vq a items) ⟨hL,?_⟩
 have hz:(zA s.heap a).objs.size=s.heap.objs.size+1:=Heap.size_push ..
 show _/\_
 rw [hz]
 have he:IsEnum ((zA s.heap a).push { cls:=.type "enumerate", data:=.fields #[.none,.bool false,.ref s.heap.objs.size,rawInt 0,.none,.none] }) (s.heap.objs.size+1) s.heap.objs.size 0 .none:=by
  have:=Heap.get?_push_size (zA s.heap a) (o:={ cls:=.type "enumerate", data:=.fields #[.none,.bool false,.ref s.heap.objs.size,rawInt 0,.none,.none] }) rfl
  rw [hz] at this;exact this
 refine⟨⟨_,he,rfl⟩,h _ he ⟨_,Heap.get?_push_of_some _ (Heap.get?_push_size _ rfl),rfl,rfl⟩ (by rw [Heap.size_push,hz]) fun b o x=>Heap.get?_push_of_some _ (Heap.get?_push_of_some _ x)⟩
theorem tE {X:Cx} {pins:cf} {σ:L2.St} {H:Hp} {s:Shared} {a b:Addr} {xs:List V} (I:Inv X pins σ H s) (h:bj X.K H a xs) (f:jh X pins H b):a≠b:=fun z=>by
 subst z
 rcases h with (h | ⟨o,h⟩) | ⟨o,its,n,hk,_⟩
 ·rw [f.1] at h;cases h
 ·rw [f.1] at h;cases h
 ·have e:=I.ok.mod.kin a o hk
  rcases f.2.2.2.1 with z | z
  ·exact I.ok.noex a o e z
  ·rw [(I.ok.bs a o e).1] at z;cases z
theorem k9 {h h':Heap} {i a:Addr} {n:Nat} (x:h.IsListIter i a n) (k:∀ o,h.get? i=some o->h'.get? i=some o):h'.IsListIter i a n:=x.at k
def yw (K:Fg) (a:Addr):It:=
 ⟨fun i H=>∃ xs x,aZ K H a xs/\xs[i]?=some x,
  fun i H v H'=>∃ p x,H p=none/\v=.ref p/\H'=upd H p (.tup [.int i,x])/\∀ xs,aZ K H a xs->xs[i]?=some x,
  fun i H=>∃ xs,aZ K H a xs/\xs.length≤i⟩
theorem vN {P:Program} {w:World} {K:Fg} {elts:List Expr} {x1} {pos:Pos} {e it a:Addr} (hei:e≠it) :
  sR P w K (.Tuple elts x1 pos) (yw K a) [e,it] e (fun i h=>(∃ old,IsEnum h e it (i:Nat) old)/\h.IsTupleIter it a i) where
 mem:=by simp
 obj:=fun i h st c hc=>by
  obtain⟨⟨old,h1⟩,⟨o2,h2,c2,d2⟩⟩:=st
  simp only [List.mem_cons,List.not_mem_nil,or_false] at hc
  rcases hc with rfl | rfl
  ·exact⟨_,h1,fun v q=>by cases (show Data.fields _=Data.cell v from q)⟩
  ·exact⟨o2,h2,fun v q=>by rw [d2] at q;cases q⟩
 keep:=fun i h h' st k=>by
  obtain⟨⟨old,h1⟩,h2⟩:=st
  exact⟨⟨old,k e (by simp) _ h1⟩,iC h2 fun o q=>k it (by simp) o q⟩
 item:=by
  intro X hP hw hK hc i pins s σ H E I hf st hg
  subst hP hw hK
  obtain⟨xs,x,q1,hx⟩:=hg
  obtain⟨its,rv,p1,z1⟩:=I.tuple q1
  obtain⟨u,hu,ru⟩:=rv.get hx
  have off:∀ c∈[e,it],a≠c:=fun c hc=>tD I q1 (hf c hc)
  obtain⟨⟨old,h1⟩,h2⟩:=st
  have hh:X.A.in1.handled=none:=I.ok.hd hc
  have na:a≠it:=off it (by simp)
  have ne:e∉[it,a]:=fun q=>by
   simp only [List.mem_cons,List.not_mem_nil,or_false] at q
   rcases q with q | q
   ·exact hei q
   ·exact off e (by simp) q.symm
  have hi:i < its.toArray.size:=by have:=(List.getElem?_eq_some_iff.mp hu).1;simpa using this
  have el:e < s.heap.objs.size:=Heap.lt_size h1
  have il:it < s.heap.objs.size:=by obtain⟨o2,q2,_⟩:=h2;exact Heap.lt_size q2
  refine wpAny_pyNext_enum_itemD (vt hh it a na its.toArray) h1 ⟨h2,p1⟩ hi hei ne fun v h' tk hv eo st' tup hz hk=>⟨_,rfl,wpAny_letOwnedTupleGo_enum eo fun h'' e2 sb=>?_⟩
  have ev:v=u:=by
   have:its.toArray[i]?=some u:=by simpa using hu
   rw [this] at hv
   exact (Option.some.inj hv).symm
  subst ev
  have nt:s.heap.objs.size≠e:=Nat.ne_of_gt el
  have ni:s.heap.objs.size≠it:=Nat.ne_of_gt il
  have P:ObjOk X.prog X.w (upd H s.heap.objs.size (.tup [.int i,x])) h'' s.heap.objs.size (.tup [.int i,x]):=
   ⟨by show 2≤sizeLine;decide,[.int i tk,v],.cons ⟨_,rfl⟩ (.cons ru .nil),⟨_,sb.extBut _ _ nt tup,rfl,_,rfl⟩⟩
  have I2:Inv X pins σ (upd H s.heap.objs.size (.tup [.int i,x])) { s with heap:=h'',toks:=tk+1 }:=n9 I (fun c o' n q=>by
   have n1:c≠e:=fun r=>n (by simp [r])
   have n2:c≠it:=fun r=>n (by simp [r])
   exact sb.extBut _ _ n1 (hk c o' n1 n2 q)) hf (Nat.le_refl _) P
  refine⟨.ref s.heap.objs.size,_,I2,rfl,⟨_,x,I.fresh,rfl,rfl,fun ys hy=>by rw [I.tuple_inj hy q1];exact hx⟩,⟨⟨_,by simpa using e2⟩,iC st'.1 fun o q=>sb.extBut _ _ hei.symm q⟩,fun c hc=>?_⟩
  have lt:c < s.heap.objs.size:=by
   simp only [List.mem_cons,List.not_mem_nil,or_false] at hc
   rcases hc with rfl | rfl
   ·exact el
   ·exact il
  rw [aJ (Nat.ne_of_lt lt)]
  exact (hf c hc).1
 done:=by
  intro X hP hw hK hc i pins s σ H E I hf st hg
  subst hP hw hK
  obtain⟨xs,q1,hx⟩:=hg
  obtain⟨its,rv,p1,z1⟩:=I.tuple q1
  have off:∀ c∈[e,it],a≠c:=fun c hc=>tD I q1 (hf c hc)
  obtain⟨⟨old,h1⟩,h2⟩:=st
  have hh:X.A.in1.handled=none:=I.ok.hd hc
  have hl:=rv.length
  have nn:its.toArray[i]?=none:=by rw [Array.getElem?_eq_none_iff];simp;omega
  have hT:s.TypeIs (.ref e) "enumerate" := ⟨_,h1,rfl⟩
  unfold pyNext
  refine wpAny_bind (wpAny_attempt (wpAny_callSpecial?_slot (name:=Str.ofString "__next__") hT F.slot_enumerate_next
   (wpAny_call_entry F.slot_enumerate_next hT F.entry_enumerate_next ?_ (F.args_enumerate_next_1 _))))
  show wpAny _ _ (field (.ref e) 2 >>= _) _ _ _
  refine wpAny_bind (wpAny_field h1 rfl (x:=.ref it) rfl ?_)
  refine wpAny_bind (xm hh h2 p1 nn fun h' x he' hx'=>?_)
  obtain⟨o,ho,hcl⟩:=hx'
  refine wpAny_bind (wpAny_isInstance (T := "StopIteration") (b:=true) ⟨o,ho,hcl⟩ isSubtype_stop ?_)
  refine wpAny_pure ⟨rfl,?_⟩
  exact og (t':=s.toks) I (fun c o' n q=>he' c o' (fun r=>n (by simp [r])) q) hf
 self:=fun A i s Q E st h=>by
  obtain⟨⟨old,h1⟩,_⟩:=st
  exact wpAny_pyIter_enum h1 h
def EI (K:Fg) (ta:TA):TI:=fun σ H R=>ta σ H fun vs H1=>∃ a,vs=[.ref a]/\(∃ xs,aZ K H1 a xs)/\R (yw K a) H1
theorem zi {X:Cx} {elts:List Expr} {x1} {tp p pos:Pos} {a:Expr} {ta:TA} (hg:Gl X "enumerate") (hm:X.mg "enumerate" = none) (ha:PA X [a] ta) (hs:starEach [a] X.env=[(false,eval a X.env)]:=by rfl) :
  PI X (.Tuple elts x1 tp) (.Call (.Name "enumerate" p) [a] [] pos) (EI X.K ta):=by
 intro pins s σ H R I h
 refine Call_ (gF I hg hm (show bootBuiltins "enumerate" = some (.type "enumerate") by kernel_rfl) (PyProof.Rows.callWith_type1 (cA (ha pos pins s σ H _ I h) fun us s1 ⟨vs,H1,I1,r1,q1⟩=>?_) hs rfl))
 obtain⟨a,e,⟨xs,hx⟩,q⟩:=q1
 subst e
 obtain⟨u,rfl,ru⟩:=r1.one
 cases ru
 obtain⟨its,_,p1,_⟩:=I1.tuple hx
 refine sK p1 fun h' he hi sz kk=>wpAny_pyIter_enum he ?_
 have I2:Inv X pins σ H1 { s1 with heap:=h' }:=I1.kept (t':=s1.toks) kk
 refine⟨_,[s1.heap.objs.size+1,s1.heap.objs.size],_,_,H1,rfl,I2,vN (a:=a) (Nat.succ_ne_self _),⟨⟨_,he⟩,hi⟩,fun c hc=>?_,q⟩
 have le:s1.heap.objs.size≤c:=by
  simp only [List.mem_cons,List.not_mem_nil,or_false] at hc
  rcases hc with h | h
  ·rw [h];exact Nat.le_succ _
  ·rw [h];exact Nat.le_refl _
 exact I1.fpOk le (I1.hok.fresh le)
theorem xU {K:Fg} {a:Addr} {xs:List V} {g:TG} {tb:TS} {D:iQ} {σ:L2.St} {H:Hp} (Pv:Nat->L2.St->Hp->Prop) (h0:Pv 0 σ H)
  (hl:∀ i σ H,i≤xs.length->Pv i σ H->aZ K H a xs)
  (hs:∀ i x p σ H,xs[i]?=some x->Pv i σ H->H p=none->g (.ref p) σ (upd H p (.tup [.int i,x])) fun σ2 H2=>tb { D with nx:=Pv (i+1),ct:=Pv (i+1),bk:=D.nx } σ2 H2) (hd:∀ σ H,Pv xs.length σ H->D.nx σ H) :
  ∃ W:Nat->Nat->L2.St->Hp->Prop,(∃ m,W 0 m σ H)/\∀ i m σ H,W i m σ H→
   ((yw K a).stop i H/\D.nx σ H)∨((yw K a).go i H/\∃ N:L2.St->Hp->Prop,(∀ σ' H',N σ' H'->∃ m',m' < m/\W (i+1) m' σ' H')/\∀ x H',(yw K a).yld i H x H'->g x σ H' fun σ2 H2=>tb { D with nx:=N,ct:=N,bk:=D.nx } σ2 H2):=by
 refine⟨fun i m σ H=>m=xs.length - i/\i≤xs.length/\Pv i σ H,⟨_,rfl,Nat.zero_le _,h0⟩,?_⟩
 rintro i m σ H ⟨rfl,hi,p⟩
 have q:=hl i σ H hi p
 by_cases hlt:i < xs.length
 ·refine .inr ⟨⟨xs,_,q,List.getElem?_eq_getElem hlt⟩,Pv (i+1),fun σ' H' p'=>⟨xs.length - (i+1),by omega,rfl,hlt,p'⟩,fun x H' y=>?_⟩
  obtain⟨pp,v,hp,rfl,rfl,hv⟩:=y
  exact hs i v pp σ _ (hv xs q) p hp
 ·have e:i=xs.length:=by omega
  subst e
  exact .inl ⟨⟨xs,q,Nat.le_refl _⟩,hd σ H p⟩
def yx (K:Fg) (a:Addr):It:=
 ⟨fun i H=>∃ xs x,bj K H a xs/\xs[i]?=some x,
  fun i H v H'=>∃ p x,H p=none/\v=.ref p/\H'=upd H p (.tup [.int i,x])/\∀ xs,bj K H a xs->xs[i]?=some x,
  fun i H=>∃ xs,bj K H a xs/\xs.length≤i⟩
theorem vO {P:Program} {w:World} {K:Fg} {elts:List Expr} {x1} {pos:Pos} {e it a:Addr} (hei:e≠it) :
  sR P w K (.Tuple elts x1 pos) (yx K a) [e,it] e (fun i h=>(∃ old,IsEnum h e it (i:Nat) old)/\h.IsListIter it a i) where
 mem:=by simp
 obj:=fun i h st c hc=>by
  obtain⟨⟨old,h1⟩,⟨o2,h2,c2,d2⟩⟩:=st
  simp only [List.mem_cons,List.not_mem_nil,or_false] at hc
  rcases hc with rfl | rfl
  ·exact⟨_,h1,fun v q=>by cases (show Data.fields _=Data.cell v from q)⟩
  ·exact⟨o2,h2,fun v q=>by rw [d2] at q;cases q⟩
 keep:=fun i h h' st k=>by
  obtain⟨⟨old,h1⟩,h2⟩:=st
  exact⟨⟨old,k e (by simp) _ h1⟩,k9 h2 fun o q=>k it (by simp) o q⟩
 item:=by
  intro X hP hw hK hc i pins s σ H E I hf st hg
  subst hP hw hK
  obtain⟨xs,x,q1,hx⟩:=hg
  obtain⟨its,rv,p1,z1⟩:=I.list q1
  obtain⟨u,hu,ru⟩:=rv.get hx
  have off:∀ c∈[e,it],a≠c:=fun c hc=>tE I q1 (hf c hc)
  obtain⟨⟨old,h1⟩,h2⟩:=st
  have hh:X.A.in1.handled=none:=I.ok.hd hc
  have na:a≠it:=off it (by simp)
  have ne:e∉[it,a]:=fun q=>by
   simp only [List.mem_cons,List.not_mem_nil,or_false] at q
   rcases q with q | q
   ·exact hei q
   ·exact off e (by simp) q.symm
  have hi:i < its.toArray.size:=by have:=(List.getElem?_eq_some_iff.mp hu).1;simpa using this
  have el:e < s.heap.objs.size:=Heap.lt_size h1
  have il:it < s.heap.objs.size:=by obtain⟨o2,q2,_⟩:=h2;exact Heap.lt_size q2
  refine wpAny_pyNext_enum_itemD (Draws.list hh it a na its.toArray) h1 ⟨h2,p1.isList⟩ hi hei ne fun v h' tk hv eo st' tup hz hk=>⟨_,rfl,wpAny_letOwnedTupleGo_enum eo fun h'' e2 sb=>?_⟩
  have ev:v=u:=by
   have:its.toArray[i]?=some u:=by simpa using hu
   rw [this] at hv
   exact (Option.some.inj hv).symm
  subst ev
  have nt:s.heap.objs.size≠e:=Nat.ne_of_gt el
  have ni:s.heap.objs.size≠it:=Nat.ne_of_gt il
  have P:ObjOk X.prog X.w (upd H s.heap.objs.size (.tup [.int i,x])) h'' s.heap.objs.size (.tup [.int i,x]):=
   ⟨by show 2≤sizeLine;decide,[.int i tk,v],.cons ⟨_,rfl⟩ (.cons ru .nil),⟨_,sb.extBut _ _ nt tup,rfl,_,rfl⟩⟩
  have I2:Inv X pins σ (upd H s.heap.objs.size (.tup [.int i,x])) { s with heap:=h'',toks:=tk+1 }:=n9 I (fun c o' n q=>by
   have n1:c≠e:=fun r=>n (by simp [r])
   have n2:c≠it:=fun r=>n (by simp [r])
   exact sb.extBut _ _ n1 (hk c o' n1 n2 q)) hf (Nat.le_refl _) P
  refine⟨.ref s.heap.objs.size,_,I2,rfl,⟨_,x,I.fresh,rfl,rfl,fun ys hy=>by rw [I.list_inj hy q1];exact hx⟩,⟨⟨_,by simpa using e2⟩,k9 st'.1 fun o q=>sb.extBut _ _ hei.symm q⟩,fun c hc=>?_⟩
  have lt:c < s.heap.objs.size:=by
   simp only [List.mem_cons,List.not_mem_nil,or_false] at hc
   rcases hc with rfl | rfl
   ·exact el
   ·exact il
  rw [aJ (Nat.ne_of_lt lt)]
  exact (hf c hc).1
 done:=by
  intro X hP hw hK hc i pins s σ H E I hf st hg
  subst hP hw hK
  obtain⟨xs,q1,hx⟩:=hg
  obtain⟨its,rv,p1,z1⟩:=I.list q1
  have off:∀ c∈[e,it],a≠c:=fun c hc=>tE I q1 (hf c hc)
  obtain⟨⟨old,h1⟩,h2⟩:=st
  have hh:X.A.in1.handled=none:=I.ok.hd hc
  have hl:=rv.length
  have nn:its.toArray[i]?=none:=by rw [Array.getElem?_eq_none_iff];simp;omega
  have hT:s.TypeIs (.ref e) "enumerate" := ⟨_,h1,rfl⟩
  unfold pyNext
  refine wpAny_bind (wpAny_attempt (wpAny_callSpecial?_slot (name:=Str.ofString "__next__") hT F.slot_enumerate_next
   (wpAny_call_entry F.slot_enumerate_next hT F.entry_enumerate_next ?_ (F.args_enumerate_next_1 _))))
  show wpAny _ _ (field (.ref e) 2 >>= _) _ _ _
  refine wpAny_bind (wpAny_field h1 rfl (x:=.ref it) rfl ?_)
  refine wpAny_bind (wpAny_nextOf_list_end hh h2 p1.isList nn fun h' x he' hx'=>?_)
  obtain⟨o,ho,hcl⟩:=hx'
  refine wpAny_bind (wpAny_isInstance (T := "StopIteration") (b:=true) ⟨o,ho,hcl⟩ isSubtype_stop ?_)
  refine wpAny_pure ⟨rfl,?_⟩
  exact og (t':=s.toks) I (fun c o' n q=>he' c o' (fun r=>n (by simp [r])) q) hf
 self:=fun A i s Q E st h=>by
  obtain⟨⟨old,h1⟩,_⟩:=st
  exact wpAny_pyIter_enum h1 h
def EJ (K:Fg) (ta:TA):TI:=fun σ H R=>ta σ H fun vs H1=>∃ a,vs=[.ref a]/\(∃ xs,bj K H1 a xs)/\R (yx K a) H1
theorem wN {X:Cx} {elts:List Expr} {x1} {tp p pos:Pos} {a:Expr} {ta:TA} (hg:Gl X "enumerate") (hm:X.mg "enumerate" = none) (ha:PA X [a] ta) (hs:starEach [a] X.env=[(false,eval a X.env)]:=by rfl) :
  PI X (.Tuple elts x1 tp) (.Call (.Name "enumerate" p) [a] [] pos) (EJ X.K ta):=by
 intro pins s σ H R I h
 refine Call_ (gF I hg hm (show bootBuiltins "enumerate" = some (.type "enumerate") by kernel_rfl) (PyProof.Rows.callWith_type1 (cA (ha pos pins s σ H _ I h) fun us s1 ⟨vs,H1,I1,r1,q1⟩=>?_) hs rfl))
 obtain⟨a,e,⟨xs,hx⟩,q⟩:=q1
 subst e
 obtain⟨u,rfl,ru⟩:=r1.one
 cases ru
 obtain⟨its,_,p1,_⟩:=I1.list hx
 refine call_enumerate_list p1.isList fun h' he hi sz kk=>wpAny_pyIter_enum he ?_
 have I2:Inv X pins σ H1 { s1 with heap:=h' }:=I1.kept (t':=s1.toks) kk
 refine⟨_,[s1.heap.objs.size+1,s1.heap.objs.size],_,_,H1,rfl,I2,vO (a:=a) (Nat.succ_ne_self _),⟨⟨_,he⟩,hi⟩,fun c hc=>?_,q⟩
 have le:s1.heap.objs.size≤c:=by
  simp only [List.mem_cons,List.not_mem_nil,or_false] at hc
  rcases hc with h | h
  ·rw [h];exact Nat.le_succ _
  ·rw [h];exact Nat.le_refl _
 exact I1.fpOk le (I1.hok.fresh le)
theorem vj {K:Fg} {a:Addr} {xs:List V} {g:TG} {tb:TS} {D:iQ} {σ:L2.St} {H:Hp} (Pv:Nat->L2.St->Hp->Prop) (h0:Pv 0 σ H)
  (hl:∀ i σ H,i≤xs.length->Pv i σ H->bj K H a xs)
  (hs:∀ i x p σ H,xs[i]?=some x->Pv i σ H->H p=none->g (.ref p) σ (upd H p (.tup [.int i,x])) fun σ2 H2=>tb { D with nx:=Pv (i+1),ct:=Pv (i+1),bk:=D.nx } σ2 H2) (hd:∀ σ H,Pv xs.length σ H->D.nx σ H) :
  ∃ W:Nat->Nat->L2.St->Hp->Prop,(∃ m,W 0 m σ H)/\∀ i m σ H,W i m σ H→
   ((yx K a).stop i H/\D.nx σ H)∨((yx K a).go i H/\∃ N:L2.St->Hp->Prop,(∀ σ' H',N σ' H'->∃ m',m' < m/\W (i+1) m' σ' H')/\∀ x H',(yx K a).yld i H x H'->g x σ H' fun σ2 H2=>tb { D with nx:=N,ct:=N,bk:=D.nx } σ2 H2):=by
 refine⟨fun i m σ H=>m=xs.length - i/\i≤xs.length/\Pv i σ H,⟨_,rfl,Nat.zero_le _,h0⟩,?_⟩
 rintro i m σ H ⟨rfl,hi,p⟩
 have q:=hl i σ H hi p
 by_cases hlt:i < xs.length
 ·refine .inr ⟨⟨xs,_,q,List.getElem?_eq_getElem hlt⟩,Pv (i+1),fun σ' H' p'=>⟨xs.length - (i+1),by omega,rfl,hlt,p'⟩,fun x H' y=>?_⟩
  obtain⟨pp,v,hp,rfl,rfl,hv⟩:=y
  exact hs i v pp σ _ (hv xs q) p hp
 ·have e:i=xs.length:=by omega
  subst e
  exact .inl ⟨⟨xs,q,Nat.le_refl _⟩,hd σ H p⟩
section
variable {prog:Program} {w:World} {A:Around} {E:cJ}
end
def HP (K:Fg) (n:Nat) (t:yt):TG:=fun v σ H Q=>∃ a xs,v=.ref a/\bj K H a xs/\xs.length=n/\t xs σ H Q
section
variable {prog:Program} {w:World} {A:Around} {E:cJ} {s:Shared}
open HT in
theorem pS {t sl:Addr} {items:Array Value} {vl vu:Value} {lo hi:Option Int} {Q:cJ} (ht:IsTup s.heap t items) (hs:s.heap.IsSliceOf sl vl vu .none) (pl:IsPart vl lo) (pu:IsPart vu hi)
  (h1:sIx items.size 0 lo=0) (h2:sIx items.size items.size hi=items.size) (h:Q (.ref t) s):wpAny (model prog w) A (getItem (.ref t) (.ref sl)) Q E s:=by
 obtain⟨os,hos,hcs,hds⟩:=id hs
 have hTs:s.TypeIs (.ref sl) "slice" := ⟨os,hos,hcs⟩
 unfold getItem
 try with_reducible refine wpAny_holding ?_
 first | refine wpAny_bind (wpAny_pure ?_) | skip
 refine wpAny_bind (wpAny_sequenceKey ht.typeIs (by decide) ?_)
 refine wpAny_bind (wpAny_callSpecial?_slot (name:=Str.ofString "__getitem__") ht.typeIs PyProof.Rows.slot_tuple_getitem
  (wpAny_call_entry PyProof.Rows.slot_tuple_getitem ht.typeIs entry_tuple_getitem ?_ (args_tuple_getitem _ _)))
 show wpAny _ _ (Builtin.Tuple.tupleItemsOf (.ref t) >>= _) _ _ s
 refine wpAny_bind (tupleItemsOf_ ht ?_)
 refine wpAny_bind (wpAny_typeOf hTs ?_)
 rw [if_pos (by decide)]
 refine wpAny_bind (fF hs pl pu ?_)
 have hyes:((((sIx items.size 0 lo:Nat):Int) == 0 && (1:Int) == 1 && (sIx items.size items.size hi - sIx items.size 0 lo) == items.size)=true):=by
  rw [h1,h2];simp
 show wpAny _ _ (if (((sIx items.size 0 lo:Nat):Int) == 0 && (1:Int) == 1 && (sIx items.size items.size hi - sIx items.size 0 lo) == items.size)=true then _ else _) _ _ s
 rw [if_pos hyes]
 refine wpAny_bind ?_
 unfold Builtin.Tuple.tupleIsExact
 refine wpAny_bind (wpAny_typeOf ht.typeIs ?_)
 refine wpAny_pure ?_
 rw [if_pos (by decide)]
 exact wpAny_bind (wpAny_rule (wpAny_pure ⟨_,rfl,wpAny_pure h⟩))
end
def DX (K:Fg):V->Option Int->Option Int->Hp->VK->Prop:=fun x lo hi H Q=>∃ a xs,x=.ref a/\aZ K H a xs/\HT.sIx xs.length 0 lo=0/\HT.sIx xs.length xs.length hi=xs.length/\Q (.ref a) H
theorem yL {X:Cx}:vH X (DX X.K):=by
 intro pins s σ H x v vl vu lo hi sl Q I rx hs pl pu h
 obtain⟨a,xs,rfl,hx,h1,h2,q⟩:=h
 cases rx
 obtain⟨its,r,ht,hz⟩:=I.tuple hx
 have hlen:its.toArray.size=xs.length:=by rw [List.size_toArray];exact r.length.symm
 refine⟨"tuple", _,PyProof.Rows.slot_tuple_getitem.lookup,ht.typeIs,?_⟩
 exact pS ht hs pl pu (by rw [hlen];exact h1) (by rw [hlen];exact h2) ⟨.ref a,H,I,rfl,q⟩
theorem yM {X:Cx}:vH X (fun x lo hi H Q=>DX X.K x lo hi H Q∨DY X.K x lo hi H Q):=vH.or yL Be
end B
namespace B
theorem CL {a b c d:Int} (hb:0 < b) (hd:0 < d) (e:a * d=c * b):fe a b=fe c d:=by
 have hr:=hJ (a:=c) hd
 have hc:=fJ (a:=c) hd
 generalize fe c d=m at hr hc ⊢
 refine dZ hb hr.pos hr.cop ?_
 refine Int.eq_of_mul_eq_mul_right (show d≠0 by omega) ?_
 have e1:m.1 * b * d=m.1 * d * b:=by ac_rfl
 have e2:a * m.2 * d=a * d * m.2:=by ac_rfl
 rw [e1,hc,e2,e]
 ac_rfl
structure Bq (D N:Nat) (r:R):Prop where
 pos:0 < r.2
 cop:Int.gcd r.1 r.2=1
 dvd:r.2∣(D:Int)
 le:r.1.natAbs≤N * r.2.natAbs
theorem Bq.red {D N:Nat} {r:R} (h:Bq D N r):lM r:=⟨h.pos,h.cop⟩
theorem yk {D N:Nat} {a b:Int} (hb:0 < b) (hd:b∣(D:Int)) (hl:a.natAbs≤N * b.natAbs):Bq D N (fe a b):=by
 obtain⟨g,x,y,e0,gp,e1,e2,c⟩:=em (a:=a) hb
 have yp:=iI hb gp e2
 have e:fe a b=(x,y):=by
  unfold fe
  rw [e0,show a / g=x by rw [e1];exact Int.mul_ediv_cancel_left _ (by omega),show b / g=y by rw [e2];exact Int.mul_ediv_cancel_left _ (by omega)]
 rw [e]
 refine⟨yp,c,Int.dvd_trans ⟨g,by rw [e2,Int.mul_comm]⟩ hd,?_⟩
 rw [e1,e2,Int.natAbs_mul,Int.natAbs_mul] at hl
 have gn:0 < g.natAbs:=by omega
 refine Nat.le_of_mul_le_mul_left (c:=g.natAbs) ?_ gn
 show g.natAbs * x.natAbs≤g.natAbs * (N * y.natAbs)
 rw [Nat.mul_left_comm]
 exact hl
theorem Bq.mono {D N D' N':Nat} {r:R} (h:Bq D N r) (hd:D∣D') (hn:N≤N'):Bq D' N' r:=
 ⟨h.pos,h.cop,Int.dvd_trans h.dvd (Int.ofNat_dvd.mpr hd),Nat.le_trans h.le (Nat.mul_le_mul_right _ hn)⟩
theorem Bq.plus {D N M:Nat} {r q:R} (hD:0 < D) (h:Bq D N r) (k:Bq D M q):Bq D (N+M) (de r q):=by
 obtain⟨y,ey⟩:=h.dvd
 obtain⟨v,ev⟩:=k.dvd
 have dp:(0:Int) < (D:Int):=by omega
 have e:de r q=fe (r.1 * y+q.1 * v) (D:Int):=by
  unfold de
  refine CL (Int.mul_pos h.pos k.pos) dp ?_
  rw [Int.add_mul,Int.add_mul]
  have a1:r.1 * q.2 * (D:Int)=r.1 * y * (r.2 * q.2):=by rw [ey];ac_rfl
  have a2:q.1 * r.2 * (D:Int)=q.1 * v * (r.2 * q.2):=by rw [ev];ac_rfl
  rw [a1,a2]
 rw [e]
 refine yk dp (Int.dvd_refl _) ?_
 have b1:(r.1 * y).natAbs≤N * D:=by
  have:(D:Int).natAbs=r.2.natAbs * y.natAbs:=by rw [ey,Int.natAbs_mul]
  rw [Int.natAbs_mul]
  have z:=Nat.mul_le_mul_right y.natAbs h.le
  rw [Nat.mul_assoc,← this] at z
  simpa using z
 have b2:(q.1 * v).natAbs≤M * D:=by
  have:(D:Int).natAbs=q.2.natAbs * v.natAbs:=by rw [ev,Int.natAbs_mul]
  rw [Int.natAbs_mul]
  have z:=Nat.mul_le_mul_right v.natAbs k.le
  rw [Nat.mul_assoc,← this] at z
  simpa using z
 have b3:=Int.natAbs_add_le (r.1 * y) (q.1 * v)
 have b4:(D:Int).natAbs=D:=Int.natAbs_natCast D
 rw [b4,Nat.add_mul]
 omega
theorem Bq.times {D N E M:Nat} {r q:R} (h:Bq D N r) (k:Bq E M q):Bq (D * E) (N * M) (eB r q):=by
 refine yk (Int.mul_pos h.pos k.pos) ?_ ?_
 ·rw [Int.natCast_mul];exact Int.mul_dvd_mul h.dvd k.dvd
 ·rw [Int.natAbs_mul,Int.natAbs_mul]
  have z:=Nat.mul_le_mul h.le k.le
  calc r.1.natAbs * q.1.natAbs≤N * r.2.natAbs * (M * q.2.natAbs):=z
   _=N * M * (r.2.natAbs * q.2.natAbs):=by ac_rfl
theorem Bq.bot {D N:Nat} {r:R} (hD:0 < D) (h:Bq D N r):r.2.natAbs≤D:=by
 have:=Int.natAbs_dvd_natAbs.mpr h.dvd
 rw [Int.natAbs_natCast] at this
 exact Nat.le_of_dvd hD this
theorem Bq.wf {D N n:Nat} {r:R} (h:Bq D N r) (hD:0 < D) (h1:D < 2 ^ n) (h2:N * D < 2 ^ n):Wf n r:=
 ⟨h.pos,Nat.lt_of_le_of_lt (Nat.le_trans h.le (Nat.mul_le_mul_left _ (h.bot hD))) h2,Nat.lt_of_le_of_lt (h.bot hD) h1,h.cop⟩
end B
namespace B
open PySem PySem.Spec L2 PyProof.Rows
inductive Rl where
 | pow (k:Int)
 | tab (rows:List (R×R))
def rS:R×R:=((0,1),(0,1))
def Bd (lo hi:R×R):R:=nu (xA hi.2 lo.2) (xA hi.1 lo.1)
def Fe (rows:List (R×R)) (k:Nat):R:=Bd (rows.getD k rS) (rows.getD (k+1) rS)
def Eo (rows:List (R×R)) (s:R):Nat:=rows.countP fun r=>gD r.1 s
def Ee (rows:List (R×R)) (s:R):Nat:=rows.countP fun r=>!gD s r.1
def EE (rows:List (R×R)) (s:R):R:=if Eo rows s=0 then (0,1) else Fe rows (Eo rows s - 1)
def BB (rows:List (R×R)) (s:R):Option R:=if Ee rows s < rows.length then some (Fe rows (Ee rows s - 1)) else none
def Eh (k:Int) (s:R):R:=eB (k,1) (Ei s (k - 1).toNat)
def Ff:Rl->R->R×Option R
 | .pow k,s=>(Eh k s,some (Eh k s))
 | .tab rows,s=>(EE rows s,BB rows s)
def Il (rows:List (R×R)):Prop:=rows.Pairwise fun a b=>gD a.1 b.1=true
def Iu (rows:List (R×R)):Prop:=∀ r∈rows,0 < r.1.2
abbrev D0:Nat:=5822723907000000000
abbrev N0:Nat:=1000000007
abbrev N1:Nat:=17179869184
abbrev NR:Nat:=11000000077
abbrev N2:Nat:=1180591620717411303424
structure Dj (rows:List (R×R)):Prop where
 n2:2≤rows.length
 n12:rows.length≤12
 inc:Il rows
 zero:∃ y,rows[0]?=some ((0,1),y)
 sp:∀ r∈rows,Bq D0 NR r.1
 pw:∀ r∈rows,Bq (D0 * D0) N2 r.2
def Ic:Rl->Prop
 | .pow k=>2≤k/\k≤4
 | .tab rows=>Dj rows
structure HY (s:R):Prop where
 bq:Bq (D0 * 2) N1 s
 nn:0≤s.1
def G0:Rl->R->Prop
 | .pow _,_=>True
 | .tab rows,s=>∃ r,rows[rows.length - 1]?=some r/\gD r.1 s=false
def ID (rows:List (R×R)) (s:R) (i:Nat):R:=if 0 < Eo rows s/\Eo rows s - 1 < i then Fe rows (Eo rows s - 1) else (0,1)
def IC (rows:List (R×R)) (s:R) (i:Nat):Option R:=if 0 < Ee rows s/\Ee rows s - 1 < i then some (Fe rows (Ee rows s - 1)) else none
def GK (k:Int) (s:R) (j:Nat):R:=fe (k * s.1 ^ j) (s.2 ^ j)
def GR (l:R) (r:Option R) (g:R):Bool:=!gD g l && (match r with | none=>true | some x=>!gD x g)
end B
namespace B
def val (r:R):Rat:=(r.1:Rat) / (r.2:Rat)
theorem gZ {b:Int} (h:0 < b):(b:Rat)≠0:=fun z=>by
 have:b=0:=Rat.intCast_inj.mp (by rw [z];rfl)
 omega
theorem A3 {r:R} {a b:Int} (hr:0 < r.2) (hb:(b:Rat)≠0) (h:r.1 * b=a * r.2):val r=(a:Rat) / (b:Rat):=by
 have h2:(r.1:Rat) * (b:Rat)=(a:Rat) * (r.2:Rat):=by rw [← Rat.intCast_mul,← Rat.intCast_mul,h]
 have h1:=gZ hr
 unfold val
 generalize (r.1:Rat)=x at *
 generalize (r.2:Rat)=y at *
 generalize (a:Rat)=u at *
 generalize (b:Rat)=v at *
 grind
theorem vK {a b:Int} (hb:0 < b):val (fe a b)=(a:Rat) / (b:Rat):=A3 (hJ hb).pos (gZ hb) (fJ hb)
theorem pN {r q:R} (hr:0 < r.2) (hq:0 < q.2):val (de r q)=val r+val q:=by
 unfold de
 rw [vK (Int.mul_pos hr hq)]
 have h1:=gZ hr
 have h2:=gZ hq
 unfold val
 rw [Rat.intCast_add,Rat.intCast_mul,Rat.intCast_mul,Rat.intCast_mul]
 generalize (r.1:Rat)=x at *
 generalize (r.2:Rat)=y at *
 generalize (q.1:Rat)=u at *
 generalize (q.2:Rat)=v at *
 grind
theorem yE {r q:R} (hr:lM r) (hq:lM q) (h:val r=val q):r=q:=by
 have h1:=gZ hr.pos
 have h2:=gZ hq.pos
 have e:r.1 * q.2=q.1 * r.2:=by
  refine Rat.intCast_inj.mp ?_
  rw [Rat.intCast_mul,Rat.intCast_mul]
  unfold val at h
  generalize (r.1:Rat)=x at *
  generalize (r.2:Rat)=y at *
  generalize (q.1:Rat)=u at *
  generalize (q.2:Rat)=v at *
  grind
 have e1:fe r.1 r.2=(r.1,r.2):=dZ hr.pos hr.pos hr.cop rfl
 have e2:fe r.1 r.2=(q.1,q.2):=dZ hr.pos hq.pos hq.cop e.symm
 exact e1.symm.trans e2
end B
namespace B
def IA (rows:List (R×R)) (i:Nat):Rat:=(val (rows.getD (i+1) rS).2 - val (rows.getD i rS).2) / (val (rows.getD (i+1) rS).1 - val (rows.getD i rS).1)
section
variable {s p:Nat->Rat} {n:Nat}
def sl (s p:Nat->Rat) (i:Nat):Rat:=(p (i+1) - p i) / (s (i+1) - s i)
end
end B
namespace B
open PySem PySem.Spec L2 PyProof.Rows
structure QE (X:Cx) (e:Expr) (t:TE):Prop where
 p:PE X e t
structure QT (X:Cx) (e:Expr) (t:TT):Prop where
 p:PT X e t
structure QW (X:Cx) (e:Expr) (t:TT):Prop where
 p:PW X e t
structure QA (X:Cx) (es:List Expr) (t:TA):Prop where
 p:PA X es t
structure QS (X:Cx) (st:Stmt) (t:TS):Prop where
 p:PS X st t
structure dU (X:Cx) (st:List Stmt) (t:TS):Prop where
 p:nX X st t
structure QI (X:Cx) (tg iter:Expr) (wi:TI):Prop where
 p:PI X tg iter wi
structure QG (X:Cx) (target:Expr) (t:TG):Prop where
 p:PG X target t
structure FA (X:Cx) (ts:List Expr) (t:yt):Prop where
 p:EY X ts t
theorem dU.ok {X:Cx} {b:List Stmt} {t:TS} {D:iQ} {σ:L2.St} {H:Hp} (h:dU X b t) (r:t D σ H):∃ t:TS,nX X b t/\t D σ H:=⟨t,h.p,r⟩
structure QO (X:Cx) (o:Option Expr) (t:L2.TO):Prop where
 p:PO X o t
section
set_option autoImplicit true
set_option relaxedAutoImplicit true
theorem qv  (i:Nat) {x:Str} {pos:Pos} (hN:X.N[i]?=some x:=by rfl) (hv:Fu X.env.scope x:=by first | exact Or.inl rfl | exact Or.inr (Or.inl rfl) | exact Or.inr (Or.inr rfl)) (hd:(x == ("__debug__" : Str))=false:=by decide) (hcd:(x == ("__classdict__" : Str))=false:=by decide):QE X (.Name x pos) (Ba i):=⟨pv i hN hv hd hcd⟩
theorem ae  {i j pos}:QE X (.Constant (.int i) j pos) (tC (.int i)):=⟨wR ⟩
theorem cW  {b j pos}:QE X (.Constant (.bool b) j pos) (tC (.bl b)):=⟨En ⟩
theorem dM  {j pos}:QE X (.Constant .none j pos) (tC .non):=⟨B3 ⟩
theorem dC  {x j pos}:QE X (.Constant (.str x) j pos) (tC (.str x)):=⟨BY ⟩
theorem dN  {x:Str} {v:V} {u:Value} {pos:Pos} (hg:Gl X x) (hm:X.mg x=some u) (r:bo v u) (hd:(x == ("__debug__" : Str))=false:=by decide):QE X (.Name x pos) (tC v):=⟨zo hg hm r hd⟩
theorem ba  {x:Str} {v:V} {u:Value} {pos:Pos} (hg:Gl X x) (hm:X.mg x=none) (hv:bootBuiltins x=some u) (r:bo v u) (hn:x ≠ "__name__" := by decide) (hd:(x == ("__debug__" : Str))=false:=by decide):QE X (.Name x pos) (tC v):=⟨zu hg hm hv r hn hd⟩
theorem fH  {op:UnaryOp} {r:V->Hp->VK->Prop} (ho:Fv X (unaryOp op) r) (ha:QE X a ta):QE X (.UnaryOp op a pos) (Gq r ta):=⟨AL ho ha.p⟩
theorem r6  (ha:QE X a ta):QE X (.UnaryOp .Not a pos) (Au ta):=⟨B2 ha.p⟩
theorem aB  {op:Operator} {r:R2} (ho:fB X (binaryOp op) r) (ha:QE X a ta) (hb:QE X b tb):QE X (.BinOp a op b pos) (yG r ta tb):=⟨Ek ho ha.p hb.p⟩
theorem dW  {op} {t:TE} (h:QE X a t):QE X (.BoolOp op [a] pos) t:=⟨B1 h.p⟩
theorem dr {cS:List Expr} (ha:QE X a ta) (hb:QE X (.BoolOp .And (b :: cS) pos) tb):QE X (.BoolOp .And (a :: b :: cS) pos) (AA ta tb):=⟨B6 ha.p hb.p⟩
theorem cG  {op:CmpOp} {r:R2} (ho:fB X (compareOp op) r) (ha:QE X a ta) (hb:QE X b tb) (hm:behindInMarks op b=false):QE X (.Compare a [op] [b] pos) (yG r ta tb):=⟨zq ho ha.p hb.p hm⟩
theorem wt  {op op':CmpOp} {r r':R2} (ho:fB X (compareOp op) r) (ho':fB X (compareOp op') r') (ha:QE X a ta) (hb:QE X b tb) (hc:QE X c tc) (hm:lastMarks [op,op'] [b,c]=false:=by with_unfolding_all rfl):QE X (.Compare a [op,op'] [b,c] pos) (oh r r' ta tb tc):=⟨wU ho ho' ha.p hb.p hc.p hm⟩
theorem bD  (h:QA X es t):QE X (.List es pos) (DI t):=⟨B4 h.p⟩
theorem az  {x1} (h:QA X es t):QE X (.Tuple es x1 pos) (DA t):=⟨BX h.p⟩
theorem bE {lo hi:Option Expr} {r:V->Option Int->Option Int->Hp->VK->Prop} (hr:vH X r) (he:QE X e te) (hl:QO X lo tl) (hu:QO X hi th):QE X (.Subscript e (.Slice lo hi none p2) pos) (Gs r te tl th):=⟨wP hr he.p hl.p hu.p⟩
theorem bT   : QO X none tq:=⟨zg ⟩
theorem bM  (h:QE X e te):QO X (some e) (At te):=⟨zf h.p⟩
theorem cj  {r:R2} (hr:Do X r) (ha:QE X a ta) (hb:QE X b tb) (hs:pF b):QE X (.Subscript a b pos) (yG r ta tb):=⟨El hr ha.p hb.p hs⟩
theorem dP  (F:bK X.prog X.w X.K X.mg X.base CX k f fd ps sp) (hr:dD k X.A) (hg:Gl X x) (hm:X.mg x=some (.ref f)) (hk:PySem.W.keepIn X.K (.ref f)=true) (hb:bi X.K fd ps ds) (hd:bf dvs ds) (hx:f8 CX X E) (ha:QA X (e :: es) t) (hdb:(x == ("__debug__" : Str))=false:=by decide) (he:starEach (e :: es) X.env=(false,eval e X.env) :: starEach es X.env:=by rfl) (hpl:(backTo pos (starEach es X.env)).any (·.1)=false:=by rfl):QE X (.Call (.Name x p) (e :: es) [] pos) (pV sp dvs E t):=⟨zt F hr hg hm hk hb hd hx ha.p hdb he hpl⟩
theorem aj {id:String} (hc:cU X (.builtin id) r) (hg:Gl X x) (hm:X.mg x=none) (hv:bootBuiltins x=some (.builtin id)) (ha:QA X (e :: es) t) (hn:x ≠ "__name__" := by decide) (hdb:(x == ("__debug__" : Str))=false:=by decide) (he:starEach (e :: es) X.env=(false,eval e X.env) :: starEach es X.env:=by rfl) (hpl:(backTo pos (starEach es X.env)).any (·.1)=false:=by rfl):QE X (.Call (.Name x p) (e :: es) [] pos) (E8 r t):=⟨wW hc hg hm hv ha.p hn hdb he hpl⟩
theorem bc  (hc:cU X (.type T) r) (hg:Gl X x) (hm:X.mg x=none) (hv:bootBuiltins x=some (.type T)) (ha:QA X (e :: es) t) (hn:x ≠ "__name__" := by decide) (hdb:(x == ("__debug__" : Str))=false:=by decide) (he:starEach (e :: es) X.env=(false,eval e X.env) :: starEach es X.env:=by rfl) (hpl:(backTo pos (starEach es X.env)).any (·.1)=false:=by rfl):QE X (.Call (.Name x p) (e :: es) [] pos) (E8 r t):=⟨u4 hc hg hm hv ha.p hn hdb he hpl⟩
theorem io {id:String} (pa:PlainAttrs T) (slot:Slot T name id) (hty:typeOf (.builtin id)=pure (.type "method_descriptor")) (hm:GX X id r) (ho:QE X o to) (ha:QA X (e :: es) t) (hbase:attributeBase o name X.env (eval o X.env)=eval o X.env:=by rfl) (hfew:((backTo cpos (starEach (e :: es) X.env)).all (fun x=>!x.1) && (backToKw cpos (keywordEach [] X.env)).all (fun x=>x.1.isSome)
   && decide ((e :: es).length+([]:List Keyword).length+(if ([]:List Keyword).isEmpty then 0 else 1) < 30))=true:=by rfl) (hline:(apos.endLine == cpos.line)=true:=by rfl) (hs:starEach (e :: es) X.env=(false,eval e X.env) :: starEach es X.env:=by rfl) (hplain:(backTo cpos (starEach es X.env)).any (·.1)=false:=by rfl):QE X (.Call (.Attribute o name apos) (e :: es) [] cpos) (GD X.K T r to t):=⟨Em pa slot hty hm ho.p ha.p hbase hfew hline hs hplain⟩
theorem ad   : QA X [] DH:=⟨Cc ⟩
theorem aa  (ha:QE X e te) (hr:QA X es t) (hs:starEach (e :: es) X.env=(false,eval e X.env) :: starEach es X.env:=by rfl):QA X (e :: es) (Ay te t):=⟨zv ha.p hr.p hs⟩
theorem aH  {op:CmpOp} {r:R2} (ho:fB X (compareOp op) r) (ha:QE X a ta) (hb:QE X b tb) (hm:behindInMarks op b=false):QT X (.Compare a [op] [b] pos) (tf (yG r ta tb)):=⟨yZ ho ha.p hb.p hm⟩
theorem qo  {op op':CmpOp} {r r':R2} (ho:fB X (compareOp op) r) (ho':fB X (compareOp op') r') (ha:QE X a ta) (hb:QE X b tb) (hc:QE X c tc) (hm:lastMarks [op,op'] [b,c]=false:=by with_unfolding_all rfl):QT X (.Compare a [op,op'] [b,c] pos) (tf (oh r r' ta tb tc)):=⟨wB ho ho' ha.p hb.p hc.p hm⟩
theorem bV  {e:Expr} {t:TE} (h:QE X e t) (he:∀ whole,isTrue e X.env whole=(do let v ← whole;standAt e.pos;holding [v] (truthy v)):=by intro _;rfl):QT X e (tB t):=⟨BK h.p he⟩
theorem ee  (ha:QT X a tA):QT X (.UnaryOp .Not a pos) (DG tA):=⟨BL ha.p⟩
theorem oM {cS:List Expr} (ha:QT X a tA) (hb:QW X (.BoolOp .And (b :: cS) pos) tB'):QW X (.BoolOp .And (a :: b :: cS) pos) (DM tA tB'):=⟨BI ha.p hb.p⟩
theorem oK  (ha:QT X a tA):QW X (.BoolOp .And [a] pos) tA:=⟨yW ha.p⟩
theorem im {cS:List Expr} (ha:QT X a tA) (hb:QW X (.BoolOp .Or (b :: cS) pos) tB'):QW X (.BoolOp .Or (a :: b :: cS) pos) (Gw tA tB'):=⟨Ef ha.p hb.p⟩
theorem gj  (ha:QT X a tA):QW X (.BoolOp .Or [a] pos) tA:=⟨BH ha.p⟩
theorem gi  {X:Cx} {e:Expr} {t:TT} (h:QW X e t):QT X e t:=⟨PW.pt h.p⟩
theorem BE  {i:Nat} {x:Str} {e:Expr} {te:TE} {pos':Pos} (hN:X.N.Nodup) (hi:X.N[i]?=some x) (hx:Ao X.env.scope x) (he:QE X e te) (hs:swapsWith e (some (.Name x pos')) pos.line X.env=pure false:=by rfl) (hf:X.fn x=true∨X.env.scope.names.lookup x=some .local:=by first | exact .inl rfl | exact .inr rfl | assumption):QS X (.Assign [.Name x pos'] e pos) (oi te (i9 i)):=⟨BM hN hi hx he.p hs hf⟩
theorem rX  {i j:Nat} {x y:Str} {a b:Expr} {ta:TA} {px py pt:Pos} {kt k2 pt2} (hc:X.calm=true) (hN:X.N.Nodup) (hi:X.N[i]?=some x) (hj:X.N[j]?=some y) (hij:i≠j) (hx:X.env.scope.names.lookup x=some .local) (hy:X.env.scope.names.lookup y=some .local) (ha:QA X [a,b] ta) (hw:swappedStores [.Tuple [.Name x px,.Name y py] kt pt] (.Tuple [a,b] k2 pt2) X.env=pure (some [x,y])) (hs:swapsWithSole [.Tuple [.Name x px,.Name y py] kt pt] (.Tuple [a,b] k2 pt2) pos.line X.env=pure false:=by rfl):QS X (.Assign [.Tuple [.Name x px,.Name y py] kt pt] (.Tuple [a,b] k2 pt2) pos) (DF i j ta):=⟨BO hc hN hi hj hij hx hy ha.p hw hs⟩
theorem jv  {tg e:Expr} {te:TE} {g:TG} (he:QE X e te) (hg:QG X tg g) (hs:swapsWithSole [tg] e pos.line X.env=pure false:=by rfl) (hw:swappedStores [tg] e X.env=pure none:=by rfl) (h1:(assignEach [tg] X.env).map (·.2)=[assign tg X.env]:=by rfl):QS X (.Assign [tg] e pos) (oi te g):=⟨BQ he.p hg.p hs hw h1⟩
theorem bh  {c:Expr} {a b:List Stmt} {tc:TT} (hc:QT X c tc) (ha:dU X a t) (hb:dU X b u):QS X (.If c a b pos) (DJ tc t u):=⟨Eg hc.p ha.p hb.p⟩
theorem kI  {c:Expr} {body:List Stmt} {tc:TT} {tb:TS} (hp:PassesOwn (model X.prog X.w) X.A X.env X.xe) (hc:QT X c tc) (hb:dU X body tb):QS X (.While c body [] pos) (vR tc tb):=⟨wD hp hc.p hb.p⟩
theorem bZ  {iter:Expr} {body:List Stmt} {wi:TI} {g:TG} {tb:TS} {pos:Pos} (hp:PassesOwn (model X.prog X.w) X.A X.env X.xe) (hc:X.calm=true) (hi:QI X tg iter wi) (hg:QG X tg g) (hb:dU X body tb) (hs:∀ x,foldedSetIterable iter X.env x=pure x:=by intro _;rfl):QS X (.For tg iter body [] pos) (DK wi g tb):=⟨BP hp hc hi.p hg.p hb.p hs⟩
theorem aC  (he:QE X e te):QS X (.Return (some e) pos) (DE te):=⟨BN he.p⟩
theorem dh  (he:QE X e te) (hs:swapsWith e none pos.line X.env=pure false:=by rfl):QS X (.Expr e pos) (Ax te):=⟨zc he.p hs⟩
theorem gk {st:Stmt}  : QS X st vT:=⟨wF ⟩
theorem aE   : dU X [] Av:=⟨y9 ⟩
theorem ah {st:Stmt} (h1:QS X st t):dU X [st] t:=⟨y8 h1.p⟩
theorem ag {st:Stmt} {cS:List Stmt} (h1:QS X st t) (h2:dU X cS u):dU X (st :: cS) (DC t u):=⟨wC h1.p h2.p⟩
theorem dj  {a:Expr} {ta:TA} {p pos:Pos} (hg:Gl X "range") (hm:X.mg "range" = none) (ha:QA X [a] ta) (hs:starEach [a] X.env=[(false,eval a X.env)]:=by rfl):QI X tg (.Call (.Name "range" p) [a] [] pos) (AS ta):=⟨u3 hg hm ha.p hs⟩
theorem ej  {a b:Expr} {ta:TA} {p pos:Pos} (hg:Gl X "range") (hm:X.mg "range" = none) (ha:QA X [a,b] ta) (hs:starEach [a,b] X.env=[(false,eval a X.env),(false,eval b X.env)]:=by rfl) (hs2:starEach [b] X.env=[(false,eval b X.env)]:=by rfl):QI X tg (.Call (.Name "range" p) [a,b] [] pos) (AR ta):=⟨u0 hg hm ha.p hs hs2⟩
theorem fc {tg:Expr} {l:Expr} {tl:TE} (hl:QE X l tl):QI X tg l (AT X.K tl):=⟨zh hl.p⟩
theorem cO  {l:Expr} {tl:TE} (hl:QE X l tl):QI X tg l (EG X.K tl):=⟨BS hl.p⟩
theorem aG  {i:Nat} {x:Str} (hN:X.N.Nodup) (hi:X.N[i]?=some x) (hx:Ao X.env.scope x) (hf:X.fn x=true∨X.env.scope.names.lookup x=some .local:=by first | exact .inl rfl | exact .inr rfl | assumption):QG X (.Name x pos) (i9 i):=⟨zk hN hi hx hf⟩
theorem jw  {es:List Expr} {k:Nat} {t:yt} {n:Nat} (hc:X.calm=true) (h:FA X es t) (hn:(assignEach es X.env).length=n:=by rfl) (hst:(assignEach es X.env).findIdx? (·.1)=none:=by rfl):QG X (.Tuple es k pos) (EM X.K n t):=⟨BU hc h.p hn hst⟩
theorem rZ  {o i:Expr} {to ti:TE} {t:yr} (ho:QE X o to) (hi:QE X i ti) (hs:Dk X t) (ha:∀ v,assign (.Subscript o i pos) X.env v=(do
   let ov ← holding [v] (eval o X.env)
   let iv ← holding [v,ov] (eval i X.env)
   standAt pos
   holding [v,ov,iv] (setItem ov iv v)
   release [v,ov,iv] []):=by intro _;rfl):QG X (.Subscript o i pos) (EN to ti t):=⟨BV ho.p hi.p hs ha⟩
theorem gY   : FA X [] EO:=⟨zj ⟩
theorem cT  {e:Expr} {es:List Expr} {t:TG} {u:yt} (h1:QG X e t) (h2:FA X es u) (hs:(assignEach (e :: es) X.env).map (·.2)=assign e X.env :: (assignEach es X.env).map (·.2):=by rfl):FA X (e :: es) (AU t u):=⟨wO h1.p h2.p hs⟩
end
structure Fz (X:Cx) (ifs:List Expr) (t:TT):Prop where
 p:Dw X ifs t
section
set_option autoImplicit true
set_option relaxedAutoImplicit true
theorem cK  {X:Cx}:Fz X [] Dz:=⟨yY ⟩
theorem gX  {X:Cx} {c:Expr} {t:TT} (h:QT X c t):Fz X [c] t:=⟨yX h.p⟩
theorem bR  (hc:X.calm=true) (hi:QI X tg iter wi) (hg:∀ C fp pins s H,QG (kd X N' scope cl C fp pins s H) tg g) (ht:∀ C fp pins s H,Fz (kd X N' scope cl C fp pins s H) ifs tt) (he:∀ C fp pins s H,QE (kd X N' scope cl C fp pins s H) elt te) (hfree:dz X scope cl N' src) (hclos:closureFor scope X.env=pure cl) (hcell:∀ x∈scope.names,x.2≠.cell) (hkind:scope.kind=.function) (hnames:∀ x∈scope.names,x.2=.local->scope.names.lookup x.1=some .local) (hcl:fo X scope cl) (hs:∀ x,foldedSetIterable iter X.env x=pure x:=by intro _;rfl):QE X (.ListComp elt [⟨tg,iter,ifs,0⟩] scope pos) (pU wi src g tt te):=⟨wQ hc hi.p (fun z0 z1 z2 z3 z4=>(hg z0 z1 z2 z3 z4).p) (fun z0 z1 z2 z3 z4=>(ht z0 z1 z2 z3 z4).p) (fun z0 z1 z2 z3 z4=>(he z0 z1 z2 z3 z4).p) hfree hclos hcell hkind hnames hcl hs⟩
theorem iZ  {i:Nat} {x:Str} {pos' pos2:Pos} (hN:X.N.Nodup) (hi':X.N[i]?=some x) (hx:Ao X.env.scope x) (hc:X.calm=true) (hi:QI X tg iter wi) (hg:∀ C fp pins s H,QG (kd X N' scope cl C fp pins s H) tg g) (ht:∀ C fp pins s H,Fz (kd X N' scope cl C fp pins s H) ifs tt) (he:∀ C fp pins s H,QE (kd X N' scope cl C fp pins s H) elt te) (hfree:dz X scope cl N' src) (hclos:closureFor scope X.env=pure cl) (hcell:∀ x∈scope.names,x.2≠.cell) (hkind:scope.kind=.function) (hnames:∀ x∈scope.names,x.2=.local->scope.names.lookup x.1=some .local) (hcl:fo X scope cl) (hs:∀ x,foldedSetIterable iter X.env x=pure x:=by intro _;rfl) (hsw:swapsWith (.ListComp elt [⟨tg,iter,ifs,0⟩] scope pos) (some (.Name x pos')) pos2.line X.env=pure true:=by rfl) (hf:X.fn x=true∨X.env.scope.names.lookup x=some .local:=by first | exact .inl rfl | exact .inr rfl | assumption):QS X (.Assign [.Name x pos'] (.ListComp elt [⟨tg,iter,ifs,0⟩] scope pos) pos2) (oi (pU wi src g tt te) (i9 i)):=⟨za hN hi' hx hc hi.p (fun z0 z1 z2 z3 z4=>(hg z0 z1 z2 z3 z4).p) (fun z0 z1 z2 z3 z4=>(ht z0 z1 z2 z3 z4).p) (fun z0 z1 z2 z3 z4=>(he z0 z1 z2 z3 z4).p) hfree hclos hcell hkind hnames hcl hs hsw hf⟩
end
section
variable {X:Cx} {K:Fg}
theorem bG (hK:X.K=K):Do X (BC K):=hK ▸ ay
theorem qE (hK:X.K=K):Do X (BD K):=hK ▸ bH
def FQ (K:Fg):List V->Hp->VK->Prop:=fun xs H Q=>∃ p ys,xs=[.ref p]/\(bj K H p ys∨aZ K H p ys)/\Q (.int ys.length) H
theorem nO (hK:X.K=K):cU X (.builtin "len") (FQ K):=hK ▸ ar
end
theorem aX {a b:Expr} {op:Operator} {pos:Pos} {es:List Expr} {env:Env}:starEach (.BinOp a op b pos :: es) env=(false,eval (.BinOp a op b pos) env) :: starEach es env:=rfl
end B
namespace B
open PySem
section
variable {es:List Expr} {env:Env}
theorem aF {a b c}:starEach (.Tuple a b c :: es) env=(false,eval (.Tuple a b c) env) :: starEach es env:=rfl
theorem gg {a b}:starEach (.List a b :: es) env=(false,eval (.List a b) env) :: starEach es env:=rfl
theorem aD {a b c}:starEach (.Subscript a b c :: es) env=(false,eval (.Subscript a b c) env) :: starEach es env:=rfl
theorem ao {a b c d}:starEach (.Call a b c d :: es) env=(false,eval (.Call a b c d) env) :: starEach es env:=rfl
theorem ac {a b}:starEach (.Name a b :: es) env=(false,eval (.Name a b) env) :: starEach es env:=rfl
theorem ap {a b c}:starEach (.Constant a b c :: es) env=(false,eval (.Constant a b c) env) :: starEach es env:=rfl
theorem eW {a b c}:starEach (.UnaryOp a b c :: es) env=(false,eval (.UnaryOp a b c) env) :: starEach es env:=rfl
theorem pY {a b c}:starEach (.Attribute a b c :: es) env=(false,eval (.Attribute a b c) env) :: starEach es env:=rfl
theorem cM {a b c d}:starEach (.ListComp a b c d :: es) env=(false,eval (.ListComp a b c d) env) :: starEach es env:=rfl
end
end B
namespace B
open PySem L2 PyProof.Rows
inductive cL {α:Type} (P:V->α->Prop):List V->List α->Prop where
 | nil:cL P [] []
 | cons {x:V} {d:α} {xs:List V} {ds:List α} (h:P x d) (t:cL P xs ds):cL P (x :: xs) (d :: ds)
theorem cL.len {α:Type} {P:V->α->Prop}:∀ {xs:List V} {ds:List α},cL P xs ds->xs.length=ds.length
 | _,_,.nil=>rfl
 | _,_,.cons _ t=>congrArg (·+1) t.len
theorem cL.mono {α:Type} {P P':V->α->Prop} (m:∀ v d,P v d->P' v d):∀ {xs:List V} {ds:List α},cL P xs ds->cL P' xs ds
 | _,_,.nil=>.nil
 | _,_,.cons h t=>.cons (m _ _ h) (t.mono m)
theorem cL.snoc {α:Type} {P:V->α->Prop} {x:V} {d:α} (k:P x d):∀ {xs:List V} {ds:List α},cL P xs ds->cL P (xs++[x]) (ds++[d])
 | _,_,.nil=>.cons k .nil
 | _,_,.cons h t=>.cons h (t.snoc k)
theorem cL.at {α:Type} {P:V->α->Prop}:∀ {xs:List V} {ds:List α},cL P xs ds->∀ {i:Nat} {x:V},xs[i]?=some x->∃ d,ds[i]?=some d/\P x d
 | _,_,.cons h _,0,x,e=>by
  rw [List.getElem?_cons_zero] at e
  cases e
  exact⟨_,rfl,h⟩
 | _,_,.cons _ t,i+1,x,e=>t.at (i:=i) (by rw [List.getElem?_cons_succ] at e;exact e)
 | _,_,.nil,_,_,e=>by cases e
theorem cL.deep {α:Type} {K:Fg} {H:Hp} {P:V->α->Prop} {f:α->PyData} (m:∀ v d,P v d->bu K H v (f d)):∀ {xs:List V} {ds:List α},cL P xs ds->aq K H xs (ds.map f)
 | _,_,.nil=>.nil
 | _,_,.cons h t=>.cons (m _ _ h) (t.deep m)
end B
namespace B
open PySem PySem.Spec L2 PyProof.Rows
theorem cL.last {α:Type} {P:V->α->Prop} {xs:List V} {ds:List α} {n:Nat} (h:cL P xs ds) (hn:ds.length=n+1):∃ x d,jm xs (-1)=some x/\ds[n]?=some d/\P x d/\xs[n]?=some x:=by
 have hl:=h.len
 have hx:xs[n]?=some (xs[n]'(by omega)):=List.getElem?_eq_getElem _
 obtain⟨d,hd,p⟩:=h.at hx
 refine⟨_,d,?_,hd,p,hx⟩
 have e:xs=xs.take n++[xs[n]'(by omega)]:=by
  have:=List.take_append_drop n xs
  rw [List.drop_eq_getElem_cons (by omega)] at this
  rw [List.drop_eq_nil_of_le (by omega)] at this
  exact this.symm
 have:=qW (xs.take n) (xs[n]'(by omega))
 rw [← e] at this
 exact this
section
set_option autoImplicit true
set_option relaxedAutoImplicit true
theorem BF  {X:Cx} {tg l:Expr} {tl:TE} (hl:QE X l tl):QI X tg l (EH X.K tl):=⟨BT hl.p⟩
end
def FU (K:Fg):R2:=fun x y H Q=>∃ d d',bu K H x d/\bu K H y d'/\d.canLay0=true/\d'.canLay0=true/\d.depth≤32/\Q (.bl (PyData.eqv d d')) H
theorem oV {X:Cx} {k:Nat} (hr:dD k X.A):fB X (compareOp .Eq) (FU X.K):=by
 intro pins s σ H x y v u Q I rx ry h
 obtain⟨d,d',hd,hd',c,c',dp,q⟩:=h
 obtain⟨as,ra⟩:=bu.reads I hd rx
 obtain⟨bs,rb⟩:=bu.reads I hd' ry
 exact SeqAt.compareEq_reads ra rb c c' (by have:=hr.units;omega) ⟨.bl _,H,I,rfl,q⟩
def D4 (K:Fg):List V->Hp->VK->Prop:=fun xs H Q=>∃ a ys n b,xs=[.ref a,.ty n]/\aZ K H a ys/\cY "tuple" n=some b/\Q (.bl b) H
theorem vA {X:Cx}:cU X (.builtin "isinstance") (D4 X.K):=by
 intro pins s σ H xs us Q I r h
 obtain⟨a,ys,n,b,rfl,hS,e,q⟩:=h
 obtain⟨u,u2,rfl,rx,ry⟩:=sY r
 obtain rfl:u2=Value.type n:=ry
 cases (show u=Value.ref a from rx)
 obtain⟨its,_,⟨o,h1,h2,_⟩,_⟩:=I.tuple hS
 exact PySem.W.kia_one PySem.W.kitx_tuple I.kIn ⟨o,h1,h2⟩ (sv e) (fun z=>nomatch z) fun tk=>⟨.bl b,H,I.tok tk,rfl,q⟩
section
set_option autoImplicit true
set_option relaxedAutoImplicit true
theorem tL  {X:Cx} {e:Expr} {f:Str} {pos:Pos} {ta:TE} {K:Fg} (hK:X.K=K) (he:QE X e ta) (hb:attributeBase e f X.env (eval e X.env)=eval e X.env):QE X (.Attribute e f pos) (Aw K ta f):=⟨zp hK he.p hb⟩
theorem tK  (hex:X.ex=[]) (ha:QE X o ta) (hv:QE X value tv) (hs:swapsWith value (some (.Attribute o f pos')) pos.line X.env=pure false):QS X (.Assign [.Attribute o f pos'] value pos) (AE X.K ta tv f):=⟨zb hex ha.p hv.p hs⟩
theorem ei  {x:Str} {p cpos pos:Pos} {e:Expr} {es:List Expr} {t:TA} {E:XK} (M:XC X.K C f bm) (hbase:bm.contains (.type "BaseException")=true) (hex:X.ex=[]) (tk:sT X E) (F:bK X.prog X.w X.K X.mg X.base d9 k f fd ps sp) (hr:dD (k+1) X.A) (hb:bi X.K fd ps []) (hg:Gl X x) (hm:X.mg x=some (.ref C)) (ha:QA X (e :: es) t) (hdb:(x == ("__debug__" : Str))=false:=by decide) (he:starEach (e :: es) X.env=(false,eval e X.env) :: starEach es X.env:=by rfl) (hpl:(backTo cpos (starEach es X.env)).any (·.1)=false:=by rfl):QS X (.Raise (some (.Call (.Name x p) (e :: es) [] cpos)) none pos) (tj C sp E t):=⟨uW M hbase hex tk F hr hb hg hm ha.p hdb he hpl⟩
theorem we {R:RX} {suite:List Stmt} {i:Nat} {n:Str} (hex:X.ex=[]) (hst:X.stack=X.env :: X.outer) (hfr:X.env.frame=some X.env.locals) (hg:Gl X x) (hm:X.mg x=some u) (hN:X.N.Nodup) (hi:X.N[i]?=some n) (hn:X.env.scope.names.lookup n=some .local) (hb:∀ pins,dU (iL X pins R) body tb) (hs:∀ e,dU (nH X e) (b₀ :: suite) th) (hd:(x == ("__debug__" : Str))=false:=by decide):QS X (.Try body [.ExceptHandler (some (.Name x p)) (some n) (b₀ :: suite) hpos] [] [] pos) (vS X.N i R (fun C=>PySem.W.exmOne X.K (.ref C) u=some true) tb th):=⟨wE hex hst hfr hg hm hN hi hn (fun z0=>(hb z0).p) (fun z0=>(hs z0).p) hd⟩
end
end B
namespace L2
open PySem PySem.Spec PyProof.Rows
section
variable {κ:Type} [DecidableEq κ]
def ef (kvs:List (κ×V)) (k:κ):Option V:=(kvs.find? fun kv=>decide (kv.1=k)).map (·.2)
def eT (kvs:List (κ×V)) (k:κ) (v:V):List (κ×V):=
 if (kvs.any fun kv=>decide (kv.1=k))=true then kvs.map (fun kv=>if kv.1=k then (kv.1,v) else kv) else kvs++[(k,v)]
def GQ (kvs:List (κ×V)) (k:κ):List (κ×V):=kvs.filter fun kv=>decide (kv.1≠k)
theorem cQ {p:κ×V} {r:List (κ×V)} {k:κ} (e:p.1=k):ef (p :: r) k=some p.2:=by simp [ef,List.find?_cons,e]
theorem cR {p:κ×V} {r:List (κ×V)} {k:κ} (e:¬ p.1=k):ef (p :: r) k=ef r k:=by simp [ef,List.find?_cons,e]
theorem iT (k:κ):∀ kvs:List (κ×V),(kvs.any fun kv=>decide (kv.1=k))=(ef kvs k).isSome
 | []=>rfl
 | p :: r=>by
  rw [List.any_cons]
  by_cases e:p.1=k
  ·simp only [cQ e,decide_eq_true e,Bool.true_or,Option.isSome_some]
  ·rw [cR e,decide_eq_false e,Bool.false_or];exact iT k r
theorem pP (k j:κ) (y:V):∀ kvs:List (κ×V),ef (kvs.map fun kv=>if kv.1=k then (kv.1,y) else kv) j=(ef kvs j).map fun x=>if j=k then y else x
 | []=>rfl
 | p :: r=>by
  have ih:=pP k j y r
  rw [List.map_cons]
  by_cases h:p.1=k
  ·rw [if_pos h]
   by_cases e:p.1=j
   ·rw [cQ (p:=(p.1,y)) e,cQ e,Option.map_some,if_pos (e.symm.trans h)]
   ·rw [cR (p:=(p.1,y)) e,cR e,ih]
  ·rw [if_neg h]
   by_cases e:p.1=j
   ·rw [cQ (p:=p) e,cQ e,Option.map_some,if_neg (fun z=>h (e.trans z))]
   ·rw [cR (p:=p) e,cR e,ih]
theorem mr (k j:κ) (y:V):∀ kvs:List (κ×V),ef kvs k=none->ef (kvs++[(k,y)]) j=if j=k then some y else ef kvs j
 | [],_=>by
  by_cases e:k=j
  ·rw [if_pos e.symm];exact cQ (p:=(k,y)) e
  ·rw [if_neg (fun z=>e z.symm)];exact cR (p:=(k,y)) e
 | p :: r,hn=>by
  rw [List.cons_append]
  have hk:¬ p.1=k:=fun z=>by rw [cQ z] at hn;cases hn
  rw [cR hk] at hn
  have ih:=mr k j y r hn
  by_cases e:p.1=j
  ·rw [cQ e,cQ e,if_neg (fun z=>hk (e.trans z))]
  ·rw [cR e,cR e,ih]
theorem vL (kvs:List (κ×V)) (k j:κ) (y:V):ef (eT kvs k y) j=if j=k then some y else ef kvs j:=by
 unfold eT
 by_cases a:(kvs.any fun kv=>decide (kv.1=k))=true
 ·rw [if_pos a,pP]
  rw [iT] at a
  by_cases e:j=k
  ·obtain⟨x,hx⟩:=Option.isSome_iff_exists.mp a
   rw [if_pos e,e,hx,Option.map_some,if_pos rfl]
  ·rw [if_neg e]
   cases ef kvs j with
   | none=>rfl
   | some x=>rw [Option.map_some,if_neg e]
 ·rw [if_neg a]
  refine mr k j y kvs ?_
  rw [iT] at a
  cases q:ef kvs k with
  | none=>rfl
  | some x=>rw [q] at a;exact (a rfl).elim
theorem gE (kvs:List (κ×V)) (k:κ) (v:V):(eT kvs k v).length≤kvs.length+1:=by
 unfold eT
 split
 ·rw [List.length_map];omega
 ·rw [List.length_append,List.length_cons,List.length_nil];omega
theorem f7.isSome_eq {o:Option V} {u:Option Value} (r:f7 o u):o.isSome=u.isSome:=by
 cases o with
 | none=>cases u with
  | none=>rfl
  | some _=>exact (show False from r).elim
 | some _=>cases u with
  | none=>exact (show False from r).elim
  | some _=>rfl
theorem f7.getD {o:Option V} {u:Option Value} {d:V} {d':Value} (r:f7 o u) (rd:bo d d'):bo (o.getD d) (u.getD d'):=by
 cases o with
 | none=>cases u with
  | none=>exact rd
  | some _=>exact (show False from r).elim
 | some _=>cases u with
  | none=>exact (show False from r).elim
  | some _=>exact r
theorem KV.val {kvs:List (κ×V)} {vs:List (κ×Value)} (r:KV kvs vs) (k:κ):f7 (ef kvs k) (valueAt vs k):=by
 unfold KV at r
 induction r with
 | nil=>exact True.intro
 | @cons p q ps qs h t ih=>
  obtain⟨h1,h2⟩:=h
  by_cases e:p.1=k
  ·have e':q.1=k:=h1.symm.trans e
   have b:valueAt (q :: qs) k=some q.2:=by simp [valueAt,List.find?_cons,e']
   rw [cQ e,b];exact h2
  ·have e':¬ q.1=k:=fun z=>e (h1.trans z)
   have b:valueAt (q :: qs) k=valueAt qs k:=by simp [valueAt,List.find?_cons,e']
   rw [cR e,b];exact ih
theorem KV.any {kvs:List (κ×V)} {vs:List (κ×Value)} (r:KV kvs vs) (k:κ):(kvs.any fun kv=>decide (kv.1=k))=vs.any fun kv=>decide (kv.1=k):=by
 unfold KV at r
 induction r with
 | nil=>rfl
 | cons h t ih=>rw [List.any_cons,List.any_cons,ih,h.1]
theorem KV.repl {kvs:List (κ×V)} {vs:List (κ×Value)} (r:KV kvs vs) (k:κ) {y:V} {u:Value} (ry:bo y u) :
  KV (kvs.map fun kv=>if kv.1=k then (kv.1,y) else kv) (vs.map fun kv=>if kv.1=k then (kv.1,u) else kv):=by
 unfold KV at r ⊢
 induction r with
 | nil=>exact .nil
 | @cons p q ps qs h t ih=>
  rw [List.map_cons,List.map_cons]
  refine .cons ?_ ih
  obtain⟨h1,h2⟩:=h
  by_cases e:p.1=k
  ·rw [if_pos e,if_pos (h1.symm.trans e)];exact⟨h1,ry⟩
  ·rw [if_neg e,if_neg (fun z=>e (h1.trans z))];exact⟨h1,h2⟩
theorem KV.put {kvs:List (κ×V)} {vs:List (κ×Value)} (r:KV kvs vs) (k:κ) {y:V} {u:Value} (ry:bo y u):KV (eT kvs k y) (stored vs k u):=by
 unfold eT stored
 rw [r.any k]
 by_cases e:(vs.any fun kv=>decide (kv.1=k))=true
 ·rw [if_pos e,if_pos e];exact r.repl k ry
 ·rw [if_neg e,if_neg e];exact Paired.snoc r ⟨rfl,ry⟩
theorem KV.length {kvs:List (κ×V)} {vs:List (κ×Value)} (r:KV kvs vs):kvs.length=vs.length:=Paired.length r
end
theorem tU {P:Program} {w:World} {k:cZ} {u:Value} (r:bo (kV k) u):(b8 P w).is k u=true:=by
 cases k with
 | inl i=>obtain⟨t,e⟩:=(show ∃ t,u=Value.int i t from r);subst e;exact qy P w i t
 | inr x=>obtain⟨t,e⟩:=(show ∃ t,u=Value.str x t from r);subst e;exact qx P w x t
theorem nF {P:Program} {w:World}:∀ {ks:List cZ} {us:List Value},bf (ks.map kV) us->ItemsAre (b8 P w) ks us
 | [],_,r=>by rw [List.map_nil] at r;cases r;exact .nil
 | k :: ks,_,r=>by
  rw [List.map_cons] at r
  cases r with
  | cons h t=>exact .cons (tU h) (nF t)
abbrev KT (H:Hp):List (List cZ×V)->List (List cZ×Addr×Value)->Prop:=Paired fun p q=>p.1=q.1/\H q.2.1=some (.tup (p.1.map kV))/\bo p.2 q.2.2
theorem KT.val {H:Hp} {kvs:List (List cZ×V)} {xs:List (List cZ×Addr×Value)} (r:KT H kvs xs) (k:List cZ):f7 (ef kvs k) ((atKey xs k).map (·.2)):=by
 induction r with
 | nil=>exact True.intro
 | @cons p q ps qs h t ih=>
  obtain⟨h1,_,h2⟩:=h
  by_cases e:p.1=k
  ·have e':q.1=k:=h1.symm.trans e
   have b:atKey (q :: qs) k=some q.2:=by simp [atKey,List.find?_cons,e']
   rw [cQ e,b];exact h2
  ·have e':¬ q.1=k:=fun z=>e (h1.trans z)
   have b:atKey (q :: qs) k=atKey qs k:=by simp [atKey,List.find?_cons,e']
   rw [cR e,b];exact ih
theorem KT.repl {H:Hp} {kvs:List (List cZ×V)} {xs:List (List cZ×Addr×Value)} (r:KT H kvs xs) (k:List cZ) {y:V} {u:Value} (ry:bo y u) :
  KT H (kvs.map fun kv=>if kv.1=k then (kv.1,y) else kv) (xs.map (putAt k u)):=by
 induction r with
 | nil=>exact .nil
 | @cons p q ps qs h t ih=>
  rw [List.map_cons,List.map_cons]
  refine .cons ?_ ih
  obtain⟨h1,h2,h3⟩:=h
  unfold putAt
  by_cases e:p.1=k
  ·rw [if_pos e,if_pos (h1.symm.trans e)];exact⟨h1,h2,ry⟩
  ·rw [if_neg e,if_neg (fun z=>e (h1.trans z))];exact⟨h1,h2,h3⟩
theorem KT.put {H:Hp} {kvs:List (List cZ×V)} {xs:List (List cZ×Addr×Value)} (r:KT H kvs xs) (k:List cZ) {b:Addr} {y:V} {u:Value} (hb:H b=some (.tup (k.map kV))) (ry:bo y u) :
  KT H (eT kvs k y) (storedH xs k b u):=by
 have e:(kvs.any fun kv=>decide (kv.1=k))=(atKey xs k).isSome:=by
  rw [iT,(r.val k).isSome_eq,Option.isSome_map]
 unfold eT storedH
 rw [e]
 by_cases q:(atKey xs k).isSome=true
 ·rw [if_pos q,if_pos q];exact r.repl k ry
 ·rw [if_neg q,if_neg q];exact Paired.snoc r ⟨rfl,hb,ry⟩
theorem KT.keeps {H H':Hp} {kvs:List (List cZ×V)} {xs:List (List cZ×Addr×Value)} (r:KT H kvs xs) (ht:∀ b ys,H b=some (.tup ys)->H' b=some (.tup ys)):KT H' kvs xs:=
 Paired.mapP r fun _ _ z=>⟨z.1,ht _ _ z.2.1,z.2.2⟩
section
variable {P:Program} {w:World} {H:Hp} {h:Heap} {a:Addr}
theorem AG {u:HO} (ok:iA P w H h) (e:Rd H a u):ObjOk P w H h a u:=e.ok ok
theorem uj {kvs:List (cZ×V)} (ok:iA P w H h) (e:Rd H a (.dK kvs)):kvs.length≤sizeLine/\(a == sysModules)=false/\∃ vs,KV kvs vs/\h.DictOf (b8 P w) a vs:=
 show ObjOk P w H h a (.dK kvs) from AG ok e
theorem AX {kvs:List (cZ×V)} (ok:iA P w H h) (e:H a=some (.dK kvs)):kvs.length≤sizeLine/\(a == sysModules)=false/\∃ vs,KV kvs vs/\h.DictOf (b8 P w) a vs:=uj ok (.inl e)
theorem o7 {ks:List cZ} (ok:iA P w H h) (e:H a=some (.tup (ks.map kV))):(tupleKind (b8 P w)).is h ks a:=by
 obtain⟨_,its,r,o,h1,h2,n,h3⟩:=(show ObjOk P w H h a (.tup (ks.map kV)) from ok a _ e)
 exact⟨o,its.toArray,n,h1,h2,h3,by simpa using nF r⟩
theorem uh {kvs:List (List cZ×V)} (ok:iA P w H h) (e:Rd H a (.dT kvs)):kvs.length≤sizeLine/\(a == sysModules)=false∧
  ∃ xs,KT H kvs xs/\h.DictOfH (tupleKind (b8 P w)) a xs:=by
 obtain⟨z,y,xs,r,o,es,ep,h1,h2,h3,h4,h5⟩:=(show ObjOk P w H h a (.dT kvs) from AG ok e)
 refine⟨z,y,xs,r,o,es,ep,h1,h2,h3,h4,fun x hx=>?_,h5⟩
 have all:∀ {l:List (List cZ×V)} {m:List (List cZ×Addr×Value)},KT H l m->∀ x∈m,(tupleKind (b8 P w)).is h x.1 x.2.1:=by
  intro l m q
  induction q with
  | nil=>intro x hx;exact nomatch hx
  | @cons p q ps qs hq t ih=>
   intro x hx
   rcases List.mem_cons.mp hx with e | hx
   ·subst e
    exact o7 ok (by rw [← hq.1];exact hq.2.1)
   ·exact ih x hx
 exact all r x hx
theorem ER {kvs:List (List cZ×V)} (ok:iA P w H h) (e:H a=some (.dT kvs)):kvs.length≤sizeLine/\(a == sysModules)=false∧
  ∃ xs,KT H kvs xs/\h.DictOfH (tupleKind (b8 P w)) a xs:=uh ok (.inl e)
end
def jH (H:Hp) (a:Addr) (y:V) (r:Option V):Prop:=
 (∃ kvs k,Rd H a (.dK kvs)/\y=kV k/\r=ef kvs k)∨∃ kvs k b,Rd H a (.dT kvs)/\y=.ref b/\H b=some (.tup (k.map kV))/\r=ef kvs k
def rc (H:Hp) (a:Addr) (y v:V) (H':Hp):Prop:=
 (∃ kvs k,H a=some (.dK kvs)/\y=kV k/\kvs.length < sizeLine/\H'=upd H a (.dK (eT kvs k v)))∨
 ∃ kvs k b,H a=some (.dT kvs)/\y=.ref b/\H b=some (.tup (k.map kV))/\kvs.length < sizeLine/\H'=upd H a (.dT (eT kvs k v))
theorem jH.k {H:Hp} {a:Addr} {kvs:List (cZ×V)} {k:cZ} (e:H a=some (.dK kvs)):jH H a (kV k) (ef kvs k):=.inl ⟨kvs,k,.inl e,rfl,rfl⟩
theorem rc.k {H:Hp} {a:Addr} {kvs:List (cZ×V)} {k:cZ} {v:V} (e:H a=some (.dK kvs)) (hl:kvs.length < sizeLine):rc H a (kV k) v (upd H a (.dK (eT kvs k v))):=.inl ⟨kvs,k,e,rfl,hl,rfl⟩
section
variable {X:Cx} {pins:cf} {σ:St} {H:Hp} {s:Shared} {a:Addr} {y v:V} {u r:Value} {o:Option V} {A:Around} {E:cJ}
theorem Inv.big (I:Inv X pins σ H s):sysModules < s.heap.objs.size:=by
 have h:mainGlobals < s.heap.objs.size:=(I.mod.glob.keeps I.bk).lt
 exact Nat.lt_trans (by decide) h
theorem F5 {Q:cJ} (hu:A.units+1 < cLine) (I:Inv X pins σ H s) (g:jH H a y o) (ry:bo y u) (h:∀ s',Inv X pins σ H s'->Q (.bool o.isSome) s') :
  wpAny (model X.prog X.w) A (compareOp .In u (.ref a)) Q E s:=by
 rcases g with ⟨kvs,k,e,ey,l⟩ | ⟨kvs,k,b,e,ey,eb,l⟩
 ·subst ey
  obtain⟨z,hd,vs,rel,dd⟩:=uj I.hok e
  refine wpAny_in_of (tU ry) hd dd.mapOf ?_
  rw [← (rel.val k).isSome_eq,← l]
  exact h _ (I.tok _)
 ·subst ey
  cases (show u=Value.ref b from ry)
  obtain⟨z,hd,xs,rel,dd⟩:=uh I.hok e
  refine wpAny_in_heap (tupleKind_room_in1 hu) (o7 I.hok eb) hd dd ?_
  have q:=(rel.val k).isSome_eq
  rw [Option.isSome_map] at q
  rw [← q,← l]
  exact h _ (I.tok _)
theorem pC {h':Heap} {t':Nat} {ob:HO} (I:Inv X pins σ H s) (mu:EZ (H a)) (hs:Heap.SameBut a s.heap h') (he:∃ q,h'.get? a=some q) (new:ObjOk X.prog X.w (upd H a ob) h' a ob) :
  Inv X pins σ (upd H a ob) { s with heap:=h',toks:=t' }:=
 I.write (x:=a) (e:=a) mu (.inl rfl) (fun b q hb z=>(hs.2 b hb).trans z) he new
theorem Db {P:Program} {w:World} {H':Hp} {h':Heap} {kvs:List (cZ×V)} {vs:List (cZ×Value)} (z:kvs.length≤sizeLine) (hd:(a == sysModules)=false) (rel:KV kvs vs) (dd:h'.DictOf (b8 P w) a vs) :
  ObjOk P w H' h' a (.dK kvs):=⟨z,hd,vs,rel,dd⟩
theorem vx {H':Hp} {Q:Unit->Shared->Prop} (hu:A.units+1 < cLine) (I:Inv X pins σ H s) (g:rc H a y v H') (ry:bo y u) (rv:bo v r) (h:∀ s',Inv X pins σ H' s'->Q () s') :
  wpAny (model X.prog X.w) A (setItem (.ref a) u r) Q E s:=by
 rcases g with ⟨kvs,k,e,ey,l,eH⟩ | ⟨kvs,k,b,e,ey,eb,l,eH⟩
 ·subst ey eH
  obtain⟨z,hd,vs,rel,dd⟩:=AX I.hok e
  have hz:vs.length≤sizeLine:=by rw [← rel.length];exact z
  have hl:(eT kvs k v).length≤sizeLine:=by have:=gE kvs k v;omega
  refine wpAny_setItem_pairs (hsz:=hz) (tU ry) dd fun h' dd' hs=>h _ ?_
  have he:∃ q,h'.get? a=some q:=let ⟨q,_,_,hq,_⟩:=dd';⟨q,hq⟩
  exact pC I (by rw [e];exact True.intro) hs he (Db hl hd (rel.put k rv) dd')
 ·subst ey eH
  cases (show u=Value.ref b from ry)
  obtain⟨z,hd,xs,rel,dd⟩:=ER I.hok e
  have hz:xs.length≤sizeLine:=by rw [← Paired.length rel];exact z
  have hl:(eT kvs k v).length≤sizeLine:=by have:=gE kvs k v;omega
  refine wpAny_setItem_heap (hsz:=hz) (tupleKind_room_in1 hu) (o7 I.hok eb) dd fun h' dd' hs=>h _ ?_
  obtain⟨q,es,ep,hq,h2,h3,h4,_,h5⟩:=dd'
  refine pC I (by rw [e];exact True.intro) hs ⟨q,hq⟩ ⟨hl,hd,_,(rel.put k eb rv).keeps fun c ys ec=>?_,q,es,ep,hq,h2,h3,h4,h5⟩
  rw [aJ (EB ec e (fun z=>nomatch z))]
  exact ec
end
section
variable {X:Cx} {pins:cf} {σ:St} {H:Hp} {s:Shared} {a:Addr} {kvs:List (cZ×V)} {k:cZ} {u:Value} {A:Around} {E:cJ}
end
def Ig (i:Expr):Prop:=∀ ov iv,subscripted i false ov iv=operate [ov,iv] (getItem ov iv)
def GB (td ty:TE):TE:=fun σ H Q=>td σ H fun x H1=>ty σ H1 fun y H2=>∃ a v,x=.ref a/\jH H2 a y (some v)/\Q v H2
def DL (ty td:TE):TE:=fun σ H Q=>ty σ H fun y H1=>td σ H1 fun x H2=>∃ a o,x=.ref a/\jH H2 a y o/\Q (.bl o.isSome) H2
def E6 (ty td:TE):TE:=fun σ H Q=>ty σ H fun y H1=>td σ H1 fun x H2=>∃ a o,x=.ref a/\jH H2 a y o/\Q (.bl (!o.isSome)) H2
def AF (td ty tv:TE):TS:=fun D σ H=>tv σ H fun v H1=>td σ H1 fun x H2=>ty σ H2 fun y H3=>∃ a H4,x=.ref a/\rc H3 a y v H4/\D.nx σ H4
def GG (td ty tv:TE) (rd:V->V->Hp->VK->Prop):TS:=fun D σ H=>td σ H fun x H1=>ty σ H1 fun y H2=>∃ a v,x=.ref a/\jH H2 a y (some v)∧
 tv σ H2 fun y2 H3=>rd v y2 H3 fun z H4=>∃ H5,rc H4 a y z H5/\D.nx σ H5
section
variable {X:Cx} {o i e value:Expr} {pos pos' tpos:Pos} {td ty tv:TE}
theorem B7 (hu:X.A.units+1 < cLine) (hi:PE X i ty) (ho:PE X o td):PC X .In i o (DL ty td):=by
 intro pins s σ H Q I h
 refine cA (hi pins s σ H _ I h) fun iv s1 ⟨y,H1,I1,ry,q1⟩=>cA (ho pins s1 σ H1 _ I1 q1) fun u s2 ⟨x,H2,I2,rx,a,ov,ex,g,q2⟩=>?_
 subst ex
 obtain rfl:u=Value.ref a:=rx
 exact F5 hu I2 g ry fun s3 I3=>⟨.bl ov.isSome,H2,I3,rfl,q2⟩
theorem zd (hu:X.A.units+1 < cLine) (ho:PE X o td) (hi:PE X i ty) (hv:PE X value tv) (hs:swapsWith value (some (.Subscript o i pos')) pos.line X.env=pure false) :
  PS X (.Assign [.Subscript o i pos'] value pos) (AF td ty tv):=by
 intro pins s σ H D I h
 refine wpAny_Assign_Subscript (cA (hv pins s σ H _ I h) fun r s1 ⟨v,H1,I1,rv,q1⟩=>cA (ho pins s1 σ H1 _ I1 q1) fun u s2 ⟨x,H2,I2,rx,q2⟩=>cA (hi pins s2 σ H2 _ I2 q2) fun iv s3 ⟨y,H3,I3,ry,a,H4,ex,g,q3⟩=>?_) hs
 subst ex
 obtain rfl:u=Value.ref a:=rx
 exact vx hu I3 g ry rv fun s4 I4=>⟨σ,H4,I4,q3⟩
end
theorem yc {P:Program} {w:World} {H:Hp} (h:Heap) (hb:sysModules < h.objs.size):ObjOk P w H (h.push { cls:=.type "dict", data:=.dict #[] }) h.objs.size (.dK []):=
 ⟨Nat.zero_le _,beq_eq_false_iff_ne.mpr (Ne.symm (Nat.ne_of_lt hb)),[],.nil,Heap.DictOf.new h⟩
def vU:TE:=fun _ H Q=>∀ p,H p=none->Q (.ref p) (upd H p (.dK []))
section
variable {X:Cx} {pos:Pos}
theorem wS:PE X (.Dict [] [] pos) vU:=fun pins s σ H Q I h=>
 wpAny_Dict_empty ⟨.ref s.heap.objs.size,_,I.laid (a:=s.heap.objs.size) (o:=.dK []) (t':=s.toks) (fun _ _ q=>Heap.get?_push_of_some _ q) (Nat.le_refl _) (yc s.heap I.big),rfl,h _ (I.hok.fresh (Nat.le_refl _))⟩
end
def rp:List (TE×TE)->St->Hp->(List (V×V)->Hp->Prop)->Prop
 | [],_,H,Q=>Q [] H
 | (tk,tv) :: r,σ,H,Q=>tk σ H fun x H1=>tv σ H1 fun y H2=>rp r σ H2 fun ps H3=>Q ((x,y) :: ps) H3
abbrev VV:List (V×V)->List (Value×Value)->Prop:=Paired fun p q=>bo p.1 q.1/\bo p.2 q.2
def IH (X:Cx) (pos:Pos) (keys:List (Option Expr)) (values:List Expr) (trs:List (TE×TE)):Prop:=
 ∀ (pins:cf) (s:Shared) (σ:St) (H:Hp) (Q:List (V×V)->Hp->Prop),Inv X pins σ H s->rp trs σ H Q→
  wpAny (model X.prog X.w) X.A (evalPairs (pairTrees keys values X.env pos)) (fun vs s'=>∃ ps H',Inv X pins σ H' s'/\VV ps vs/\Q ps H') X.xe s
def CM (kvs more:List (cZ×V)):List (cZ×V):=more.foldl (fun acc kv=>eT acc kv.1 kv.2) kvs
def GA (trs:List (TE×TE)):TE:=fun σ H Q=>∀ p,H p=none->rp trs σ (upd H p (.dK [])) fun ps H2=>H2 p=some (.dK [])/\∃ kvs:List (cZ×V),ps=kvs.map (fun kv=>(kV kv.1,kv.2))/\kvs.length≤15/\Q (.ref p) (upd H2 p (.dK (CM [] kvs)))
structure M1 (X:Cx) (o:Expr) (m:Str) (apos:Pos) (e:Expr) (cpos:Pos):Prop where
 base:attributeBase o m X.env (eval o X.env)=eval o X.env
 few:((backTo cpos (starEach [e] X.env)).all (fun x=>!x.1) && (backToKw cpos (keywordEach [] X.env)).all (fun x=>x.1.isSome)
  && decide (([e]:List Expr).length+([]:List Keyword).length+(if ([]:List Keyword).isEmpty then 0 else 1) < 30))=true
 line:(apos.endLine == cpos.line)=true
 trees:backTo cpos (starEach [e] X.env)=[(false,eval e X.env)]
structure M2 (X:Cx) (o:Expr) (m:Str) (apos:Pos) (e f:Expr) (cpos:Pos):Prop where
 base:attributeBase o m X.env (eval o X.env)=eval o X.env
 few:((backTo cpos (starEach [e,f] X.env)).all (fun x=>!x.1) && (backToKw cpos (keywordEach [] X.env)).all (fun x=>x.1.isSome)
  && decide (([e,f]:List Expr).length+([]:List Keyword).length+(if ([]:List Keyword).isEmpty then 0 else 1) < 30))=true
 line:(apos.endLine == cpos.line)=true
 trees:backTo cpos (starEach [e,f] X.env)=[(false,eval e X.env),(false,eval f X.env)]
def Gf (H:Hp) (a:Addr):Prop:=(∃ kvs,Rd H a (.dK kvs))∨∃ kvs,Rd H a (.dT kvs)
theorem xJ {X:Cx} {pins:cf} {σ:St} {H:Hp} {s:Shared} {a:Addr} (I:Inv X pins σ H s) (d:Gf H a) :
  s.TypeIs (.ref a) "dict" /\ (∀ b,Value.ref a=.ref b->∃ ob,s.heap.get? b=some ob/\ob.dict=none)/\(a == sysModules)=false:=by
 rcases d with ⟨kvs,e⟩ | ⟨kvs,e⟩
 ·obtain⟨_,hd,vs,_,dd⟩:=uj I.hok e
  refine⟨dd.typeIs,fun b q=>?_,hd⟩
  cases q
  obtain⟨ob,_,_,h1,h2,_⟩:=dd
  exact⟨ob,h1,h2.2.1⟩
 ·obtain⟨_,hd,xs,_,dd⟩:=uh I.hok e
  refine⟨dd.typeIs,fun b q=>?_,hd⟩
  cases q
  obtain⟨ob,_,_,h1,h2,_⟩:=dd
  exact⟨ob,h1,h2.2.1⟩
section
variable {X:Cx} {pins:cf} {σ:St} {H:Hp} {s:Shared} {a:Addr} {y d:V} {u r:Value} {o:Option V} {A:Around} {E:cJ}
theorem Dc {Q:cJ} (hu:A.units+1 < cLine) (I:Inv X pins σ H s) (g:jH H a y o) (ry:bo y u) (rd:bo d r) (h:∀ w' s',Inv X pins σ H s'->bo (o.getD d) w'->Q w' s') :
  wpAny (model X.prog X.w) A (call (.builtin "dict.get") [.ref a,u,r]) Q E s:=by
 rcases g with ⟨kvs,k,e,ey,l⟩ | ⟨kvs,k,b,e,ey,eb,l⟩
 ·subst ey
  obtain⟨z,hd,vs,rel,dd⟩:=uj I.hok e
  refine call_meetsIn PySem.F.slot_dict_get dd.typeIs PySem.F.entry_dict_get (PySem.F.args_dict_get_3 _ _ _) (meets_dict_get_default (b8 X.prog X.w) a (tU ry) hd r) ⟨_,dd.mapOf,h _ _ (I.tok _) ?_⟩
  rw [l]
  exact (rel.val k).getD rd
 ·subst ey
  cases (show u=Value.ref b from ry)
  obtain⟨z,hd,xs,rel,dd⟩:=uh I.hok e
  refine call_meetsIn PySem.F.slot_dict_get dd.typeIs PySem.F.entry_dict_get (PySem.F.args_dict_get_3 _ _ _) (meetsH_dict_get_default (tupleKind (b8 X.prog X.w)) a b hd r) ⟨tupleKind_room_in1 hu,k,xs,o7 I.hok eb,dd,h _ _ (I.tok _) ?_⟩
  rw [l]
  exact (rel.val k).getD rd
end
def FI (td ty:TE):TE:=fun σ H Q=>td σ H fun x H1=>∃ a,x=.ref a/\Gf H1 a/\ty σ H1 fun y H2=>∃ o,jH H2 a y o/\Q (o.getD .non) H2
def vV (td ty tx:TE):TE:=fun σ H Q=>td σ H fun x H1=>∃ a,x=.ref a/\Gf H1 a/\ty σ H1 fun y H2=>tx σ H2 fun z H3=>∃ o,jH H3 a y o/\Q (o.getD z) H3
section
variable {X:Cx} {o e f:Expr} {apos cpos:Pos} {td ty tx:TE}
theorem wT (hu:X.A.units+1 < cLine) (ho:PE X o td) (he:PE X e ty) (hf:PE X f tx) (m:M2 X o "get" apos e f cpos):PE X (.Call (.Attribute o "get" apos) [e,f] [] cpos) (vV td ty tx):=by
 intro pins s σ H Q I h
 refine wpAny_Call_method m.base m.few m.line PySem.F.plainAttrs_dict PySem.F.slot_dict_get PySem.F.type_dict_get (cA (ho pins s σ H _ I h) fun u s1 ⟨x,H1,I1,rx,a,ex,d,q1⟩=>?_)
 subst ex
 obtain rfl:u=Value.ref a:=rx
 obtain⟨t1,t2,_⟩:=xJ I1 d
 refine⟨t1,t2,?_⟩
 rw [m.trees]
 refine Calls.callWith_builtin rfl (Calls.evalArgs_plain (Calls.spliced_cons (cA (he pins s1 σ H1 _ I1 q1) fun iv s2 ⟨y,H2,I2,ry,q2⟩=>
  Calls.spliced_cons (cA (hf pins s2 σ H2 _ I2 q2) fun fv s3 ⟨z,H3,I3,rz,ov,g,q3⟩=>Calls.spliced_nil ?_))))
 exact Dc hu I3 g ry rz fun w' s4 I4 rw'=>⟨_,H3,I4,rw',q3⟩
end
end L2
namespace B
open PySem PySem.Spec L2 PyProof.Rows
theorem fM {α β:Type} {K:Fg} {H:Hp} {D a:Addr} {xs:List V} {ds:List α} {P:Hp->V->β->Prop} {f:α->β} {src:List (Option Nat)} {σ:L2.St} {g:TG} {tt:TT} {te:TE} {Q:Hp->Prop}
  (mono:∀ H H' v d,bn K H H'->P H v d->P H' v d) (hD:H D=none) (hS:aZ K H a xs) (hl:xs.length=ds.length) (hn:ds.length≤1000)
  (turn:∀ (i:Nat) (x:V) (d:α) (H':Hp),xs[i]?=some x->ds[i]?=some d->aw H H'->∀ (R:VK) (E:Hp->Prop),(∀ v H'',aw H' H''->P H'' v (f d)->R v H'')→
   g x (d0 src σ) H' fun σ2 H2=>ji (d0 src σ) σ2/\tt σ2 H2 fun ok H3=>if ok=true then te σ2 H3 R else E H3)
  (fin:∀ H' ys,aw H H'->H' D=some (.lst ys)->cL (P H') ys (ds.map f)->Q H') :
  ∃ W:Nat->Nat->List V->Hp->Prop,(∃ m,W 0 m [] (upd H D (.lst [])))/\∀ i m ys H,W i m ys H->((yC K a).stop i H/\Q H)∨((yC K a).go i H/\∀ x H',(yC K a).yld i H x H'→
   g x (d0 src σ) H' fun σ2 H2=>ji (d0 src σ) σ2/\tt σ2 H2 fun ok H3=>
    if ok=true then te σ2 H3 fun y H4=>H4 D=some (.lst ys)/\ys.length < sizeLine/\∃ m',m' < m/\W (i+1) m' (ys++[y]) (upd H4 D (.lst (ys++[y]))) else ∃ m',m' < m/\W (i+1) m' ys H3):=by
 refine⟨fun i m ys H'=>i≤ds.length/\m=ds.length - i/\H' D=some (.lst ys)/\aw H H'/\cL (P H') ys ((ds.take i).map f),⟨_,Nat.zero_le _,rfl,af,ak hD _,.nil⟩,?_⟩
 rintro i m ys H1 ⟨hi,rfl,d1,s1,al1⟩
 have hS1:aZ K H1 a xs:=bn.same s1 _ _ hS
 by_cases hix:i < ds.length
 ·have hx0:xs[i]?=some (xs[i]'(by omega)):=List.getElem?_eq_getElem _
  refine .inr ⟨⟨xs,_,hS1,hx0⟩,?_⟩
  rintro x H2 ⟨rfl,hy⟩
  have hx:=hy xs hS1
  obtain⟨d,hd⟩:∃ d,ds[i]?=some d:=⟨_,List.getElem?_eq_getElem hix⟩
  refine turn i x d _ hx hd s1 _ _ fun v H3 s3 p3=>?_
  have d3:H3 D=some (.lst ys):=s3 _ _ d1
  have tm:bn K H2 (upd H3 D (.lst (ys++[v]))):=(bn.same s3).trans (bn.up d3 _)
  refine⟨d3,cF (by rw [al1.len,List.length_map,List.length_take];omega),ds.length - (i+1),by omega,hix,rfl,af,fun b o q=>?_,?_⟩
  ·rw [aJ (aV q hD)]
   exact s3 _ _ (s1 _ _ q)
  ·rw [List.take_add_one,hd,List.map_append]
   exact (al1.mono fun v d p=>mono _ _ _ _ tm p).snoc (mono _ _ _ _ (bn.up d3 _) p3)
 ·have e:i=ds.length:=by omega
  subst e
  rw [List.take_length] at al1
  exact .inl ⟨⟨xs,hS1,by omega⟩,fin H1 ys s1 d1 al1⟩
def km:PyData->String
 | .none => "NoneType"
 | .bool _ => "bool"
 | .int _ => "int"
 | .str _ => "str"
 | .list _ => "list"
 | .tuple _ => "tuple"
 | .dict _ => "dict"
def D6 (K:Fg):List V->Hp->VK->Prop:=fun xs H Q=>∃ v d n b,xs=[v,.ty n]/\bu K H v d/\cY (km d) n=some b/\Q (.bl b) H
theorem aR {X:Cx}:cU X (.builtin "isinstance") (D6 X.K):=by
 intro pins s σ H xs us Q I r h
 obtain⟨v,d,n,b,rfl,hD,e,q⟩:=h
 cases hD with
 | non=>exact fO pins s σ H _ us Q I r ⟨_,n,_,b,rfl,.non,e,q⟩
 | bl c=>exact fO pins s σ H _ us Q I r ⟨_,n,_,b,rfl,.bl c,e,q⟩
 | int i=>exact fO pins s σ H _ us Q I r ⟨_,n,_,b,rfl,.int i,e,q⟩
 | str x=>exact fO pins s σ H _ us Q I r ⟨_,n,_,b,rfl,.str x,e,q⟩
 | @tup a ys ds hS hA=>exact vA pins s σ H _ us Q I r ⟨a,ys,n,b,rfl,hS,e,q⟩
 | @lst a ys ds hS hA=>
  obtain⟨u,u2,rfl,rx,ry⟩:=sY r
  obtain rfl:u2=Value.type n:=ry
  cases (show u=Value.ref a from rx)
  obtain⟨its,_,⟨o,k,h1,h2,_⟩,_⟩:=I.list hS
  exact PySem.W.kia_one PySem.W.kitx_list I.kIn ⟨o,h1,h2⟩ (sv e) (fun z=>nomatch z) fun tk=>⟨.bl b,H,I.tok tk,rfl,q⟩
def iB:PyData->Bool
 | .int _=>true
 | _=>false
def uy (n:Nat):PyData->Bool
 | .tuple xs=>decide (xs.length=n)
 | _=>false
def DV:PyData->Bool
 | .tuple [.int a,.int b]=>decide (1≤b) && decide (Int.gcd a b=1)
 | _=>false
def GL:PyData->Bool
 | .tuple [x,y]=>DV x && DV y
 | _=>false
theorem tX {K:Fg} {H:Hp} {v:V} {d:PyData} (h:bu K H v d):∃ b c,cY (km d) "int" = some b/\cY (km d) "bool" = some c/\iB d=(b && !c):=by
 cases h with
 | non=>exact⟨false,false,by simp only [km];decide +kernel,by simp only [km];decide +kernel,rfl⟩
 | bl b=>exact⟨true,true,by simp only [km];decide +kernel,by simp only [km];decide +kernel,rfl⟩
 | int i=>exact⟨true,false,by simp only [km];decide +kernel,by simp only [km];decide +kernel,rfl⟩
 | str x=>exact⟨false,false,by simp only [km];decide +kernel,by simp only [km];decide +kernel,rfl⟩
 | lst e t=>exact⟨false,false,by simp only [km];decide +kernel,by simp only [km];decide +kernel,rfl⟩
 | tup e t=>exact⟨false,false,by simp only [km];decide +kernel,by simp only [km];decide +kernel,rfl⟩
theorem hU {K:Fg} {H:Hp} {v:V} {d:PyData} (h:bu K H v d):(cY (km d) "tuple" = some true/\∃ a xs ds,v=.ref a/\d=.tuple ds/\aZ K H a xs/\aq K H xs ds)∨(cY (km d) "tuple" = some false/\∀ ds,d≠.tuple ds):=by
 cases h with
 | non=>exact .inr ⟨by simp only [km];decide +kernel,fun _ z=>nomatch z⟩
 | bl b=>exact .inr ⟨by simp only [km];decide +kernel,fun _ z=>nomatch z⟩
 | int i=>exact .inr ⟨by simp only [km];decide +kernel,fun _ z=>nomatch z⟩
 | str x=>exact .inr ⟨by simp only [km];decide +kernel,fun _ z=>nomatch z⟩
 | lst e t=>exact .inr ⟨by simp only [km];decide +kernel,fun _ z=>nomatch z⟩
 | tup e t=>exact .inl ⟨by simp only [km];decide +kernel,_,_,_,rfl,rfl,e,t⟩
theorem yF {d:PyData} {n:Nat} (h:∀ ds,d≠.tuple ds):uy n d=false:=by
 cases d <;> first | rfl | exact absurd rfl (h _)
theorem aq.len {K:Fg} {H:Hp}:∀ {xs:List V} {ds:List PyData},aq K H xs ds->xs.length=ds.length
 | _,_,.nil=>rfl
 | _,_,.cons _ t=>congrArg Nat.succ t.len
theorem bu.two {K:Fg} {H:Hp} {v:V} {d:PyData} (h:bu K H v d) (c:uy 2 d=true):∃ a x y dx dy,v=.ref a/\d=.tuple [dx,dy]/\aZ K H a [x,y]/\bu K H x dx/\bu K H y dy:=by
 cases h with
 | @tup a xs ds e t=>
  have l:ds.length=2:=of_decide_eq_true c
  cases t with
  | nil=>cases l
  | cons hx t=>cases t with
   | nil=>cases l
   | cons hy t=>cases t with
    | nil=>exact⟨a,_,_,_,_,rfl,rfl,e,hx,hy⟩
    | cons hz t=>simp at l
 | _=>cases c
structure Sh (k n:Nat) (d:PyData):Prop where
 sh:d.showable=true
 nd:d.hasDict=false
 dp:d.depth≤k
 sz:d.shown.length≤n
theorem Sh.mono {k n k' n':Nat} {d:PyData} (h:Sh k n d) (hk:k≤k') (hn:n≤n'):Sh k' n' d:=⟨h.sh,h.nd,Nat.le_trans h.dp hk,Nat.le_trans h.sz hn⟩
theorem Sh.all {k n:Nat}:∀ {ds:List PyData},(∀ d∈ds,Sh k n d)->PyData.showableAll ds=true/\PyData.hasDictAll ds=false/\PyData.depthAll ds≤k/\((PyData.shownAll ds).map (·.length)).sum≤n * ds.length/\(PyData.shownAll ds).length=ds.length
 | [],_=>⟨rfl,rfl,Nat.zero_le _,Nat.zero_le _,rfl⟩
 | d :: ds,h=>by
  obtain⟨a,b,c,e,f⟩:=Sh.all (ds:=ds) fun x hx=>h x (List.mem_cons_of_mem _ hx)
  have z:=h d List.mem_cons_self
  refine⟨?_,?_,?_,?_,?_⟩
  ·show (d.showable && PyData.showableAll ds)=true
   rw [z.sh,a];rfl
  ·show (d.hasDict || PyData.hasDictAll ds)=false
   rw [z.nd,b];rfl
  ·show max d.depth (PyData.depthAll ds)≤k
   exact Nat.max_le.mpr ⟨z.dp,c⟩
  ·show d.shown.length+((PyData.shownAll ds).map (·.length)).sum≤n * (ds.length+1)
   have:=z.sz
   rw [Nat.mul_succ];omega
  ·show (PyData.shownAll ds).length+1=ds.length+1
   rw [f]
theorem Sh.tup {k n m N:Nat} {ds:List PyData} (h:∀ d∈ds,Sh k n d) (hm:ds.length≤m) (hN:(n+3) * m+8≤N):Sh (k+1) N (.tuple ds):=by
 obtain⟨a,b,c,e,f⟩:=Sh.all h
 refine⟨a,b,Nat.succ_le_succ c,?_⟩
 show (tupleText (PyData.shownAll ds)).length≤N
 have q:=tupleText_len_le (PyData.shownAll ds)
 have l:n * ds.length+3 * ds.length≤(n+3) * m:=by
  rw [← Nat.add_mul]
  exact Nat.mul_le_mul_left _ hm
 omega
theorem Sh.shows {k n:Nat} {d:PyData} (h:Sh k n d) (hk:k≤16) (hn:n≤16777216):yu d:=⟨h.sh,h.nd,Nat.le_trans h.sz (Nat.le_trans hn (by decide)),Nat.le_trans h.dp hk⟩
mutual
theorem bu.same {K:Fg} {H H':Hp} (s:aw H H'):∀ {v:V} {d:PyData},bu K H v d->bu K H' v d
 | _,_,.non=>.non
 | _,_,.bl b=>.bl b
 | _,_,.int i=>.int i
 | _,_,.str x=>.str x
 | _,_,.lst e t=>.lst (s.seq e) (aq.same s t)
 | _,_,.tup e t=>.tup (bn.same s _ _ e) (aq.same s t)
theorem aq.same {K:Fg} {H H':Hp} (s:aw H H'):∀ {vs:List V} {ds:List PyData},aq K H vs ds->aq K H' vs ds
 | _,_,.nil=>.nil
 | _,_,.cons h t=>.cons (bu.same s h) (aq.same s t)
end
theorem Ce {X:Cx}:fB X (compareOp .Is) (fun x y H Q=>∃ b c,x=.bl b/\y=.bl c/\Q (.bl (decide (b=c))) H):=by
 intro pins s σ H x y v u Q I rx ry h
 obtain⟨b,c,rfl,rfl,q⟩:=h
 obtain rfl:v=Value.bool b:=rx
 obtain rfl:u=Value.bool c:=ry
 refine wpAny_is_plain (by cases b <;> cases c <;> rfl) ⟨.bl _,H,I,?_,q⟩
 cases b <;> cases c <;> rfl
end B
namespace B
open PySem PySem.Spec L2 PyProof.Rows
def Ec (K:Fg):R2:=fun x y H Q=>∃ a b xs ys,x=.ref a/\y=.ref b/\aZ K H a xs/\aZ K H b ys/\xs.length+ys.length≤sizeLine/\∀ p H',aw H H'->aZ K H' p (xs++ys)->Q (.ref p) H'
theorem bQ {X:Cx}:fB X (binaryOp .Add) (Ec X.K):=by
 intro pins s σ H x y v u Q I rx ry h
 obtain⟨a,b,xs,ys,rfl,rfl,ha,hb,hz,q⟩:=h
 by_cases hx:xs=[]
 ·subst hx
  cases rx
  cases ry
  obtain⟨its,r1,p1,_⟩:=I.tuple ha
  obtain⟨its2,r2,p2,_⟩:=I.tuple hb
  have e0:its=[]:=r1.nil_iff.mpr rfl
  subst e0
  obtain⟨⟨cls,dd,data,sl⟩,ho,hc,n,hd⟩:=id p1
  obtain⟨⟨cls2,dd2,data2,sl2⟩,ho2,hc2,n2,hd2⟩:=id p2
  simp only at hc hd hc2 hd2
  subst hc hd hc2 hd2
  exact concat_meets ⟨_,ho,rfl⟩ ⟨_,ho2,rfl⟩ noFill_tuple_add seq_tuple_add PySem.F.slot_tuple_add PySem.F.entry_tuple_add (PySem.F.args_tuple_add_2 _ _)
   (tuple_addW0 a b _ _ n n2 dd dd2 sl sl2 (by simp)) ⟨ho,ho2,⟨.ref b,H,I,rfl,q b H (aw.refl H) hb⟩⟩
 ·refine zy pins s σ H _ _ v u Q I rx ry ⟨a,b,xs,ys,rfl,rfl,ha,hb,hx,hz,fun e=>?_,fun _ p hp=>?_⟩
  ·subst e
   exact q a H (aw.refl H) (by rw [List.append_nil];exact ha)
  ·exact q p _ (ak hp _) (aZ.of af)
def FN (K:Fg):V->Option Int->Option Int->Hp->VK->Prop:=fun x lo hi H Q=>∃ a xs,x=.ref a/\aZ K H a xs/\∀ p H',aw H H'->aZ K H' p (dY xs lo hi)->Q (.ref p) H'
theorem cN {X:Cx}:vH X (FN X.K):=by
 intro pins s σ H x v vl vu lo hi sl Q I rx hs pl pu h
 obtain⟨a,xs,rfl,hx,q⟩:=h
 refine yM pins s σ H _ v vl vu lo hi sl Q I rx hs pl pu ?_
 by_cases c:HT.sIx xs.length 0 lo=0/\HT.sIx xs.length xs.length hi=xs.length
 ·refine .inl ⟨a,xs,rfl,hx,c.1,c.2,q a H (aw.refl H) ?_⟩
  have e:dY xs lo hi=xs:=by
   unfold dY
   rw [c.1,c.2,List.drop_zero,Nat.sub_zero,List.take_length]
  rw [e]
  exact hx
 ·exact .inr ⟨a,xs,rfl,hx,c,fun p hp=>q p _ (ak hp _) (aZ.of af)⟩
theorem yf {xs:List V} {n:Nat} (h:n≤xs.length):dY xs none (some (n:Int))=xs.take n:=by
 unfold dY
 rw [HT.sIx_nat,HT.sIx_none,Nat.min_eq_left h,Nat.sub_zero,List.drop_zero]
theorem yh {xs:List V} {n:Nat} (h:n≤xs.length):dY xs (some (n:Int)) none=xs.drop n:=by
 unfold dY
 rw [HT.sIx_nat,HT.sIx_none,Nat.min_eq_left h]
 exact List.take_of_length_le (by rw [List.length_drop];omega)
def EV (K:Fg) (s:Addr):Prop:=∃ ns:List Int,ns.length≤63/\∀ H:Hp,bj K H s (ns.map V.int)
structure bJ (K:Fg) (H:Hp) (t s:Addr):Prop where
 ex:∃ (ns:List Int) (p q:Int),H t=some (.lst [.ref s,.int p,.int q])/\((Rd H s (.lst (ns.map V.int))/\s≠t)∨∀ H',bj K H' s (ns.map V.int))/\ns.length≤63/\0≤p/\0≤q
theorem yR {H H':Hp} {a:Addr} {u:HO} (h:Rd H a u) (z:aw H H'):Rd H' a u:=by
 rcases h with h | ⟨o,h⟩
 ·exact .inl (z _ _ h)
 ·exact .inr ⟨o,z _ _ h⟩
theorem oJ {H:Hp} {a l:Addr} {u o:HO} (h:Rd H a u) (n:l≠a):Rd (upd H l o) a u:=by
 unfold Rd
 rw [aJ n.symm]
 exact h
theorem wb {H:Hp} {a l:Addr} {u:HO} (h:Rd H a u) (n:H l=none):l≠a:=fun e=>by
 subst e
 rcases h with h | ⟨o,h⟩
 ·rw [n] at h;cases h
 ·rw [n] at h;cases h
theorem bJ.lst {K:Fg} {H:Hp} {t s:Addr} (h:bJ K H t s):∃ xs,H t=some (.lst xs):=let ⟨_,_,_,e,_⟩:=h.ex;⟨_,e⟩
theorem bJ.same {K:Fg} {H H':Hp} {t s:Addr} (h:bJ K H t s) (z:aw H H'):bJ K H' t s:=by
 obtain⟨ns,p,q,h1,h2,h3⟩:=h.ex
 refine⟨ns,p,q,z _ _ h1,?_,h3⟩
 rcases h2 with ⟨a,b⟩ | a
 ·exact .inl ⟨yR a z,b⟩
 ·exact .inr a
theorem bJ.new {K:Fg} {H:Hp} {t s p:Addr} (h:bJ K H t s) (n:H p=none) (o:HO):bJ K (upd H p o) t s:=h.same (ak n o)
theorem bJ.off {K:Fg} {H:Hp} {t s D:Addr} (h:bJ K H t s) (n:H D=none):D≠s∨EV K s:=by
 obtain⟨ns,p,q,_,h2,h3,_⟩:=h.ex
 rcases h2 with ⟨a,_⟩ | a
 ·exact .inl (wb a n)
 ·exact .inr ⟨ns,h3,a⟩
theorem bJ.upl {K:Fg} {H:Hp} {t s l:Addr} (h:bJ K H t s) (a:l≠t) (b:l≠s∨EV K s) (o:HO):bJ K (upd H l o) t s:=by
 obtain⟨ns,p,q,h1,h2,h3⟩:=h.ex
 rcases b with b | ⟨ms,m3,m⟩
 ·refine⟨ns,p,q,by rw [aJ a.symm];exact h1,?_,h3⟩
  rcases h2 with ⟨c,d⟩ | c
  ·exact .inl ⟨oJ c b,d⟩
  ·exact .inr c
 ·exact⟨ms,p,q,by rw [aJ a.symm];exact h1,.inr m,m3,h3.2⟩
def vZ (K:Fg):Sp:=fun vs H Q _=>∃ (a:Addr) (ns:List Int),vs=[.ref a]/\bj K H a (ns.map V.int)/\ns.length≤63/\∀ (t:Addr) (H':Hp),aw H H'->H t=none->bJ K H' t a->Q (.ref t) H'
def v2 (K:Fg):Sp:=fun vs H Q _=>∃ (t s:Addr) (m:Int),vs=[.ref t,.int m]/\bJ K H t s/\0 < m/\m < 1073741824/\∀ (r:Int) (xs:List V),0≤r->r < m->bJ K (upd H t (.lst xs)) t s->Q (.int r) (upd H t (.lst xs))
theorem bJ.mk3 {K:Fg} {H:Hp} {t a:Addr} {ns:List Int} (hS:bj K H a (ns.map V.int)) (hl:ns.length≤63) (ht:H t=none):bJ K (upd H t (.lst [.ref a,.int 0,.int 0])) t a:=by
 refine⟨ns,0,0,af,?_,hl,Int.le_refl _,Int.le_refl _⟩
 rcases hS with h | h
 ·exact .inl ⟨oJ h (wb h ht),(wb h ht).symm⟩
 ·exact .inr fun _=>.inr h
section
set_option autoImplicit true
set_option relaxedAutoImplicit true
theorem yU  {X:Cx} {elts:List Expr} {x1} {tp p pos:Pos} {a:Expr} {ta:TA} (hg:Gl X "enumerate") (hm:X.mg "enumerate" = none) (ha:QA X [a] ta) (hs:starEach [a] X.env=[(false,eval a X.env)]:=by rfl):QI X (.Tuple elts x1 tp) (.Call (.Name "enumerate" p) [a] [] pos) (EI X.K ta):=⟨zi hg hm ha.p hs⟩
theorem wj  {X:Cx} {elts:List Expr} {x1} {tp p pos:Pos} {a:Expr} {ta:TA} (hg:Gl X "enumerate") (hm:X.mg "enumerate" = none) (ha:QA X [a] ta) (hs:starEach [a] X.env=[(false,eval a X.env)]:=by rfl):QI X (.Tuple elts x1 tp) (.Call (.Name "enumerate" p) [a] [] pos) (EJ X.K ta):=⟨wN hg hm ha.p hs⟩
end
theorem tZ:∀ {ns:List Int} {us:List Value},bf (ns.map V.int) us->IntsAre us ns
 | [],_,.nil=>.nil
 | n :: ns,_,.cons r t=>by
  obtain⟨tk,rfl⟩:=(show ∃ t,_=Value.int n t from r)
  exact .cons _ _ (tZ t)
theorem jC {X:Cx} (hc:X.calm=true):cU X (.builtin "sum") (fun xs H Q=>∃ (p:Addr) (ns:List Int),xs=[.ref p]/\bj X.K H p (ns.map V.int)/\Q (.int ns.sum) H):=by
 intro pins s σ H xs us Q I r h
 obtain⟨p,ns,rfl,hq,q⟩:=h
 obtain⟨u,rfl,rx⟩:=eU r
 cases rx
 obtain⟨its,rv,pl,hz⟩:=I.list hq
 have hi:=tZ rv
 obtain⟨zs,ez⟩:=hi.allInts.items
 have hl:=pl.isList
 rw [ez] at hl
 have en:numsOf its=ns:=hi.numsOf
 rw [show its=its.toArray.toList from rfl,ez,nums_intItems] at en
 refine sum_intListG (I.ok.hd hc) hl fun h' tk t' hk=>?_
 rw [preSum_eq,List.take_of_length_le (by simp),en]
 exact⟨.int ns.sum,H,I.kept (t':=tk) hk,⟨_,rfl⟩,q⟩
theorem qV:∀ {bs:List Bool} {us:List Value},bf (bs.map V.bl) us->∀ {i:Nat} {v:Value},us[i]?=some v->v=.bool (bs.getD i true)
 | [],_,.nil,i,v,e=>by cases e
 | b :: bs,_,.cons r t,0,v,e=>by
  rw [List.getElem?_cons_zero] at e
  cases e
  exact (show _=Value.bool b from r)
 | b :: bs,_,.cons r t,i+1,v,e=>by
  rw [List.getElem?_cons_succ] at e
  exact qV t e
theorem nW:∀ (bs:List Bool),(List.range bs.length).all (fun i=>bs.getD i true)=bs.all id
 | []=>rfl
 | b :: bs=>by
  rw [List.length_cons,List.range_succ_eq_map,List.all_cons,List.all_map,List.all_cons]
  have:=nW bs
  show (b && (List.range bs.length).all (fun i=>bs.getD i true))=(id b && bs.all id)
  rw [this];rfl
theorem fP {X:Cx} (hc:X.calm=true):cU X (.builtin "all") (fun xs H Q=>∃ (p:Addr) (bs:List Bool),xs=[.ref p]/\bj X.K H p (bs.map V.bl)/\Q (.bl (bs.all id)) H):=by
 intro pins s σ H xs us Q I r h
 obtain⟨p,bs,rfl,hq,q⟩:=h
 obtain⟨u,rfl,rx⟩:=eU r
 cases rx
 obtain⟨its,rv,pl,hz⟩:=I.list hq
 have ne:p≠s.heap.objs.size:=by
  obtain⟨o,ho,_⟩:=pl.isList
  exact Nat.ne_of_lt (Heap.lt_size ho)
 have hlen:its.toArray.size=bs.length:=by rw [List.size_toArray,← rv.length,List.length_map]
 refine call_all_walk (wpAny_pyIter_list pl.isList ?_)
 refine⟨_,_,_,_,_,_,fun i=>bs.getD i true,rfl,Walks.list (A:=X.A.in1) (I.ok.hd hc) _ p ne its.toArray,⟨⟨_,Heap.get?_push_size _ rfl,rfl,rfl⟩,pl.isList.push _⟩,fun i v s' Q' E' hv hQ=>?_,fun h' tk hk=>?_⟩
 ·have e:=qV rv (i:=i) (v:=v) (by simpa using hv)
  subst e
  exact wpAny_truthy_bool hQ
 ·rw [hlen,nW]
  refine⟨.bl _,H,I.kept (t':=tk) fun b o e=>hk b o (fun z=>?_) (Heap.get?_push_of_some _ e),rfl,q⟩
  rw [List.mem_singleton.mp z] at e
  exact absurd (Heap.lt_size e) (Nat.lt_irrefl _)
section
variable {prog:Program} {w:World} {A:Around} {E:cJ} {s:Shared}
theorem lW {Q:List Value->Shared->Prop} {r:Addr} {a b c:Int} {t u v:Tok} {n:Nat} (hh:A.handled=none) (hr:IsRange s.heap r a b c t u v) (hsmall:Builtin.Range.small a b c=true)
  (hn:Builtin.Range.rangeSize a b c=n) (hlen:n≤2 ^ 24)
  (hQ:∀ h' tk acc,(∀ b o,s.heap.get? b=some o->h'.get? b=some o)->ItemsOf (fun i v=>∃ t,v=.int (a+i * c) t) acc n->Q acc.toList { s with heap:=h',toks:=tk }) :
  wpAny (model prog w) A (collect (.ref r)) Q E s:=by
 unfold collect
 refine wpAny_bind (wpAny_runValue (codeAny_builtin F.entry_proto_collect ?_))
 rw [Around.under_plainId F.plain_proto_collect _]
 show wpAny _ A.in1 (newList [] >>= fun l=>again (.builtin "list.__iadd__" ⟨[l,.ref r],[]⟩)) _ _ s
 refine wpAny_bind (wpAny_newObj_type ?_)
 refine wpAny_pure ⟨plainId_quiet F.plain_list_iadd _,codeAny_builtin F.entry_list_iadd ?_⟩
 rw [Around.under_plainId F.plain_list_iadd _]
 show wpAny _ A.in1 (Builtin.List.listExtendWith (.ref s.heap.objs.size) (.ref r) (.ref s.heap.objs.size)) _ _ { s with heap:=s.heap.push { cls:=.type "list", data:=.seq ([]:List Value).toArray } }
 refine wpAny_extend_range (R:=wants (fun v s'=>wpAny (model prog w) A (match v with | .ref a=>(do match (← load a).data with | .seq xs _=>pure xs.toList | _=>unsupported "internal:collect") | _=>unsupported "internal:collect") Q E s') E) (s:={ s with heap:=s.heap.push { cls:=.type "list", data:=.seq ([]:List Value).toArray } }) hh (Heap.get?_push_of_some _ hr) hsmall hn hlen s.heap.objs.size _ _ (Heap.get?_push_size _ rfl) fun h' tk acc' c' hk hS hI=>?_
 show wpAny _ A (load s.heap.objs.size >>= _) _ _ _
 refine wpAny_bind (wpAny_load hS ?_)
 exact wpAny_pure (hQ h' tk acc' (fun b o e=>hk b o (Nat.ne_of_lt (Heap.lt_size e)) (Heap.get?_push_of_some _ e)) hI)
theorem i3 {r:Addr} {a b c:Int} {t u v:Tok} {n:Nat} (hsmall:Builtin.Range.small a b c=true) (hn:Builtin.Range.rangeSize a b c=n) (hlen:n≤2 ^ 24) :
  Meets (Builtin.«tuple.__new__» ⟨[.type "tuple", .ref r],[]⟩)
   (fun A R s=>A.handled=none/\IsRange s.heap r a b c t u v/\∀ (h':Heap) (tk:Nat) (acc:Array Value),(∀ b o,s.heap.get? b=some o->h'.get? b=some o)->ItemsOf (fun i v=>∃ t,v=.int (a+i * c) t) acc n→
    R (.ok (.ret (.ref h'.objs.size))) { s with heap:=h'.push { cls:=.type "tuple", data:=.seq acc },toks:=tk }):=
 .of_wp fun prog w A R s h=>by
  obtain⟨hh,hr,h⟩:=h
  have hsub:=sub_tuple_self
  have hinit:=init_tuple_lookup
  have hmh:=madeHere_tuple
  have hT:s.TypeIs (.ref r) "range" := ⟨_,hr,rfl⟩
  have hh1:A.in1.handled=none:=hh
  wp_walk using wpAny_typeOf hT,lW hh1 hr hsmall hn hlen
  intro h' tk acc hk hacc
  show wpAny _ _ (Builtin.Tuple.tupleExact acc.toList.toArray >>= fun v=>ret v) _ _ _
  unfold Builtin.Tuple.tupleExact
  refine wpAny_bind (wpAny_newObj_type ?_ (show acc.toList.toArray.size≤sizeLine by simp only [Array.toArray_toList];rw [hacc.1,sizeLine_eq];exact hlen))
  refine wpAny_pure ⟨_,rfl,?_⟩
  have e:acc.toList.toArray=acc:=by simp
  rw [e]
  exact h h' tk acc hk hacc
theorem jB {Q:cJ} {r:Addr} {a b c:Int} {t u v:Tok} {n:Nat} (hh:A.handled=none) (hr:IsRange s.heap r a b c t u v) (hsmall:Builtin.Range.small a b c=true)
  (hn:Builtin.Range.rangeSize a b c=n) (hlen:n≤2 ^ 24)
  (hQ:∀ (h':Heap) (tk:Nat) (acc:Array Value),(∀ b o,s.heap.get? b=some o->h'.get? b=some o)->ItemsOf (fun i v=>∃ t,v=.int (a+i * c) t) acc n->Q (.ref h'.objs.size) { s with heap:=h'.push { cls:=.type "tuple", data:=.seq acc },toks:=tk }) :
  wpAny (model prog w) A (call (.type "tuple") [.ref r]) Q E s:=by
 refine callType_new F.called_tuple (by decide) (F.typeCall_tuple_1 _) (F.newCall_tuple_1 _) (fun obj=>F.args_object_init_2 obj _) F.entry_tuple_new
  (i3 hsmall hn hlen) ⟨hh,hr,fun h' tk acc hk hacc=>⟨⟨_,Heap.get?_push_size _ rfl,rfl⟩,hQ h' tk acc hk hacc⟩⟩
end
def upTo (n:Nat):List Int:=(List.range n).map fun i:Nat=>(i:Int)
theorem ki {acc:Array Value} {n:Nat} (h:ItemsOf (fun i v=>∃ t,v=.int ((0:Int)+i * 1) t) acc n):bf ((upTo n).map V.int) acc.toList:=by
 obtain⟨hl,ha⟩:=h
 have key:∀ m,m≤n->bf ((upTo m).map V.int) (acc.toList.take m):=by
  intro m
  induction m with
  | zero=>intro _;rw [List.take_zero];exact .nil
  | succ m ih=>
   intro hm
   have hlt:m < acc.size:=by omega
   have e1:acc.toList.take (m+1)=acc.toList.take m++[acc[m]]:=by
    rw [List.take_add_one];simp [hlt]
   have e2:(upTo (m+1)).map V.int=(upTo m).map V.int++[V.int m]:=by
    unfold upTo;rw [List.range_succ];simp
   rw [e1,e2]
   refine (ih (by omega)).append (.cons ?_ .nil)
   obtain⟨t,e⟩:=ha m acc[m] (by simp [hlt])
   exact⟨t,by rw [e];simp⟩
 have:=key n (Nat.le_refl _)
 rwa [List.take_of_length_le (by simp [hl])] at this
def As (ta:TA):TE:=fun σ H Q=>ta σ H fun vs H1=>∃ j:Int,vs=[.int j]/\∀ p,H1 p=none->Q (.ref p) (upd H1 p (.rng 0 j))
theorem zl {X:Cx} {a:Expr} {ta:TA} {p pos:Pos} (hg:Gl X "range") (hm:X.mg "range" = none) (ha:PA X [a] ta) (hs:starEach [a] X.env=[(false,eval a X.env)]:=by rfl) :
  PE X (.Call (.Name "range" p) [a] [] pos) (As ta):=by
 intro pins s σ H Q I h
 refine Call_ (gF I hg hm boot_range (PyProof.Rows.callWith_type1 (cA (ha pos pins s σ H _ I h) fun us s1 ⟨vs,H1,I1,r1,q1⟩=>?_) hs rfl))
 obtain⟨j,e,q⟩:=q1
 subst e
 obtain⟨u,rfl,t,rfl⟩:=eU r1
 refine call_range_1 ?_
 exact⟨.ref s1.heap.objs.size,_,I1.laid (o:=.rng 0 j) (fun b o e=>Heap.get?_push_of_some _ e) (Nat.le_refl _) ⟨_,t,_,Heap.get?_push_size _ rfl⟩,rfl,q _ (I1.hok.fresh (Nat.le_refl _))⟩
theorem tI (n:Nat):Builtin.Range.rangeSize 0 n 1=n:=by rw [rangeSize_one];split <;> omega
theorem jQ {X:Cx} (hc:X.calm=true):cU X (.type "tuple") (fun xs H Q=>∃ p,∃ n:Nat,xs=[.ref p]/\H p=some (.rng 0 n)/\n≤1000/\∀ l,H l=none->Q (.ref l) (upd H l (.tup ((upTo n).map V.int)))):=by
 intro pins s σ H xs us Q I r h
 obtain⟨p,n,rfl,hp,hn,q⟩:=h
 obtain⟨u,rfl,rx⟩:=eU r
 cases rx
 obtain⟨t,u,w,e⟩:=(show ObjOk X.prog X.w H s.heap p (.rng 0 n) from I.hok p _ hp)
 refine jB (I.ok.hd hc) (show IsRange s.heap p 0 n 1 t u w from e) (small_one (by omega) (by omega) (by omega) (by omega)) (tI n) (by omega) fun h' tk acc hk hi=>?_
 have rv:=ki hi
 have I1:Inv X pins σ H { s with heap:=h',toks:=tk }:=I.kept (t':=tk) hk
 have hl:(upTo n).length=n:=by unfold upTo;simp
 have I2:Inv X pins σ (upd H h'.objs.size (.tup ((upTo n).map V.int))) { s with heap:=h'.push { cls:=.type "tuple", data:=.seq acc },toks:=tk }:=
  I1.laid (t':=tk) (fun b o e=>Heap.get?_push_of_some _ e) (Nat.le_refl _) (show ObjOk X.prog X.w _ _ _ (.tup ((upTo n).map V.int)) from ⟨by rw [List.length_map,hl,sizeLine_eq];omega,acc.toList,rv,by have:=IsTup.new h' acc;simpa using this⟩)
 exact⟨.ref h'.objs.size,_,I2,rfl,q _ (I1.hok.fresh (Nat.le_refl _))⟩
def Ik (hi:Int) (n:Nat):It:=⟨fun i _=>i < n,fun i H x H'=>H'=H/\x=.int (hi - i),fun i _=>n≤i⟩
def GO (ta:TA):TI:=fun σ H R=>ta σ H fun vs H1=>∃ i j:Int,vs=[.int i,.int j,.int (-1)]/\(-1000≤i/\i≤1000/\-1000≤j/\j≤1000)/\R (Ik i (i - j).toNat) H1
section
set_option autoImplicit true
set_option relaxedAutoImplicit true
theorem oO  {X:Cx} {a:Expr} {ta:TA} {p pos:Pos} (hg:Gl X "range") (hm:X.mg "range" = none) (ha:QA X [a] ta) (hs:starEach [a] X.env=[(false,eval a X.env)]:=by rfl):QE X (.Call (.Name "range" p) [a] [] pos) (As ta):=⟨zl hg hm ha.p hs⟩
end
structure Ft (J:It) (H:Hp) (n:Nat) (P:Nat->V->Hp->Prop):Prop where
 go:∀ i H',i < n->aw H H'->J.go i H'
 stop:∀ H',aw H H'->J.stop n H'
 yld:∀ i H' x H'',i < n->aw H H'->J.yld i H' x H''->aw H' H''/\P i x H''
theorem jZ {K:Fg} {H:Hp} {a:Addr} {xs:List V} (h:bj K H a xs):Ft (Dp K a) H xs.length (fun i x _=>xs[i]?=some x) where
 go:=fun i H' hi s=>⟨xs,_,s.seq h,List.getElem?_eq_getElem hi⟩
 stop:=fun H' s=>⟨xs,s.seq h,Nat.le_refl _⟩
 yld:=fun i H' x H'' hi s y=>by obtain⟨rfl,hy⟩:=y;exact⟨aw.refl _,hy xs (s.seq h)⟩
theorem fR {K:Fg} {H:Hp} {a:Addr} {xs:List V} (h:aZ K H a xs):Ft (yC K a) H xs.length (fun i x _=>xs[i]?=some x) where
 go:=fun i H' hi s=>⟨xs,_,bn.same s _ _ h,List.getElem?_eq_getElem hi⟩
 stop:=fun H' s=>⟨xs,bn.same s _ _ h,Nat.le_refl _⟩
 yld:=fun i H' x H'' hi s y=>by obtain⟨rfl,hy⟩:=y;exact⟨aw.refl _,hy xs (bn.same s _ _ h)⟩
theorem gT {H:Hp} {lo:Int} {n:Nat}:Ft (A0 lo n) H n (fun i x _=>x=.int (lo+i)) where
 go:=fun i H' hi s=>hi
 stop:=fun H' s=>Nat.le_refl _
 yld:=fun i H' x H'' hi s y=>by obtain⟨rfl,rfl⟩:=y;exact⟨aw.refl _,rfl⟩
theorem cH {J:It} {H:Hp} {D:Addr} {n:Nat} {P:Nat->V->Hp->Prop} (w:Ft J H n P) (c:Nat->Bool) (f:Nat->V) {src:List (Option Nat)} {σ:L2.St} {g:TG} {tt:TT} {te:TE} {Q:Hp->Prop} (hD:H D=none) (hn:n≤1000)
  (turn:∀ (i:Nat) (x:V) (H':Hp),i < n->aw H H'->P i x H'->∀ (R:VK) (E:Hp->Prop),(c i=true->∀ H'',aw H' H''->R (f i) H'')->(c i=false->∀ H'',aw H' H''->E H'')→
   g x (d0 src σ) H' fun σ2 H2=>ji (d0 src σ) σ2/\tt σ2 H2 fun ok H3=>if ok=true then te σ2 H3 R else E H3)
  (fin:∀ H',aw H H'->H' D=some (.lst (((List.range n).filter c).map f))->Q H') :
  ∃ W:Nat->Nat->List V->Hp->Prop,(∃ m,W 0 m [] (upd H D (.lst [])))/\∀ i m ys H,W i m ys H->(J.stop i H/\Q H)∨(J.go i H/\∀ x H',J.yld i H x H'→
   g x (d0 src σ) H' fun σ2 H2=>ji (d0 src σ) σ2/\tt σ2 H2 fun ok H3=>
    if ok=true then te σ2 H3 fun y H4=>H4 D=some (.lst ys)/\ys.length < sizeLine/\∃ m',m' < m/\W (i+1) m' (ys++[y]) (upd H4 D (.lst (ys++[y]))) else ∃ m',m' < m/\W (i+1) m' ys H3):=by
 refine⟨fun i m ys H'=>i≤n/\m=n - i/\ys=((List.range i).filter c).map f/\aw H H'/\H' D=some (.lst ys),⟨_,Nat.zero_le _,rfl,rfl,ak hD _,af⟩,?_⟩
 rintro i m ys H1 ⟨hi,rfl,rfl,s1,d1⟩
 by_cases hix:i < n
 ·refine .inr ⟨w.go i H1 hix s1,fun x H2 y=>?_⟩
  obtain⟨s2,p⟩:=w.yld i H1 x H2 hix s1 y
  have d2:=s2 _ _ d1
  have len:(((List.range i).filter c).map f).length≤i:=by
   rw [List.length_map]
   exact Nat.le_trans (List.length_filter_le _ _) (by rw [List.length_range];exact Nat.le_refl _)
  refine turn i x H2 hix (s1.trans s2) p _ _ (fun hc H3 s3=>?_) fun hc H3 s3=>?_
  ·have d3:=s3 _ _ d2
   refine⟨d3,cF (by omega),n - (i+1),by omega,hix,rfl,?_,fun b o q=>?_,af⟩
   ·rw [List.range_succ,List.filter_append,List.map_append]
    simp [hc]
   ·rw [aJ (aV q hD)]
    exact s3 _ _ (s2 _ _ (s1 _ _ q))
  ·refine⟨n - (i+1),by omega,hix,rfl,?_,(s1.trans s2).trans s3,s3 _ _ d2⟩
   rw [List.range_succ,List.filter_append,List.map_append]
   simp [hc]
 ·have e:i=n:=by omega
  subst e
  exact .inl ⟨w.stop H1 s1,fin H1 s1 d1⟩
theorem gO {α β:Type} (d:α) (p:α->Bool) (f:α->β):∀ l:List α,((List.range l.length).filter fun i=>p (l.getD i d)).map (fun i=>f (l.getD i d))=(l.filter p).map f
 | []=>rfl
 | x :: l=>by
  have ih:=gO d p f l
  rw [List.length_cons,List.range_succ_eq_map,List.filter_cons,List.filter_cons]
  have e:(((List.range l.length).map Nat.succ).filter fun i=>p ((x :: l).getD i d)).map (fun i=>f ((x :: l).getD i d))=(l.filter p).map f:=by
   rw [List.filter_map,List.map_map]
   exact ih
  show (if p x=true then _ else _:List Nat).map _=_
  cases hp:p x with
  | true=>
   simp only [if_true,List.map_cons]
   rw [e];rfl
  | false=>
   simp only [Bool.false_eq_true,if_false]
   exact e
theorem jd {α β:Type} (d:α) (f:α->β) (l:List α):((List.range l.length).filter fun _=>true).map (fun i=>f (l.getD i d))=l.map f:=by
 have:=gO d (fun _=>true) f l
 rw [this,List.filter_eq_self.mpr (by intros;rfl)]
theorem aN {α:Type} {l:List α} {i:Nat} {x:α} (d:α) (h:l[i]?=some x):l.getD i d=x:=by rw [List.getD_eq_getElem?_getD,h];rfl
section
variable {prog:Program} {w:World} {A:Around} {E:cJ} {s:Shared}
end
theorem sJ {X:Cx} (hc:X.calm=true):cU X (.type "list") (fun xs H Q=>∃ p,∃ n:Nat,xs=[.ref p]/\H p=some (.rng 0 n)/\n≤1000/\∀ l,H l=none->Q (.ref l) (upd H l (.lst ((upTo n).map V.int)))):=by
 intro pins s σ H xs us Q I r h
 obtain⟨p,n,rfl,hp,hn,q⟩:=h
 obtain⟨u,rfl,rx⟩:=eU r
 cases rx
 obtain⟨t,u,w,e⟩:=(show ObjOk X.prog X.w H s.heap p (.rng 0 n) from I.hok p _ hp)
 refine call_list_range (I.ok.hd hc) (show IsRange s.heap p 0 n 1 t u w from e) (small_one (by omega) (by omega) (by omega) (by omega)) (tI n) (by omega) fun h' tk acc c' hk hS hi=>?_
 have rv:=ki hi
 have hl:(upTo n).length=n:=by unfold upTo;simp
 have I2:Inv X pins σ (upd H s.heap.objs.size (.lst ((upTo n).map V.int))) { s with heap:=h',toks:=tk }:=
  I.laid (t':=tk) hk (Nat.le_refl _) (show ObjOk X.prog X.w _ _ _ (.lst ((upTo n).map V.int)) from ⟨by rw [List.length_map,hl,sizeLine_eq];omega,acc.toList,c',rv,by simpa using hS⟩)
 exact⟨.ref s.heap.objs.size,_,I2,rfl,q _ (I.hok.fresh (Nat.le_refl _))⟩
theorem fq {X:Cx} {K:Fg} (hK:X.K=K):fB X (compareOp .NotIn) (Fp K true):=hK ▸ oS
theorem sg {X:Cx} {K:Fg} (hK:X.K=K):fB X (compareOp .In) (Fp K false):=hK ▸ nA
theorem kb (t:Nat) (ls:List Nat):sF (.int t) (ls.map fun n:Nat=>V.int n)=ls.contains t:=by
 unfold sF
 rw [List.any_map]
 induction ls with
 | nil=>rfl
 | cons a r ih=>
  rw [List.any_cons,List.contains_cons,ih]
  congr 1
  show decide (((a:Nat):Int)=(t:Nat))=(t == a)
  by_cases h:t=a
  ·subst h;simp
  ·rw [beq_eq_false_iff_ne.mpr h]
   exact decide_eq_false (by omega)
theorem qL (ls:List Nat):(ls.map fun n:Nat=>V.int n).all iz=true:=by
 rw [List.all_map,List.all_eq_true]
 intro x _
 rfl
def Ap (ds:List PyData):Prop:=∀ e∈ds,e.canLay0=true/\e.depth≤32
def Hu (K:Fg):R2:=fun x y H Q=>∃ p xs ds d,y=.ref p/\bj K H p xs/\aq K H xs ds/\Ap ds/\bu K H x d/\d.canLay0=true/\PyData.eqv d d=true/\Q (.bl (ds.any fun e=>PyData.eqv e d)) H
def Fk (K:Fg):R2:=fun x y H Q=>∃ p xs ds d,y=.ref p/\bj K H p xs/\aq K H xs ds/\Ap ds/\bu K H x d/\d.canLay0=true/\PyData.eqv d d=true/\Q (.bl (!ds.any fun e=>PyData.eqv e d)) H
def GJ (K:Fg):R2:=fun x y H Q=>∃ p xs ds d,y=.ref p/\aZ K H p xs/\aq K H xs ds/\Ap ds/\bu K H x d/\d.canLay0=true/\PyData.eqv d d=true/\Q (.bl (ds.any fun e=>PyData.eqv e d)) H
def Fo (K:Fg):V->List V->Hp->VK->Prop:=fun x vs H Q=>∃ p xs ds w d,x=.ref p/\vs=[w]/\bj K H p xs/\aq K H xs ds/\Ap ds/\bu K H w d/\d.canLay0=true/\PyData.eqv d d=true/\(∃ e∈ds,PyData.eqv e d=true)∧
 ∀ (j:Nat) (e:PyData),ds[j]?=some e->PyData.eqv e d=true->(∀ m f,m < j->ds[m]?=some f->PyData.eqv f d=false)->Q (.int j) H
def Fm:V->List V->Hp->VK->Prop:=fun x vs H Q=>∃ (l:Addr) (xs:List V) (j:Nat) (y:V),x=.ref l/\vs=[.int j,y]/\H l=some (.lst xs)/\j≤xs.length/\xs.length < sizeLine/\Q .non (upd H l (.lst (xs.take j++y :: xs.drop j)))
mutual
def Fs:PyData->Bool
 | .int i=>decide (i.natAbs < 2 ^ 230)
 | .tuple ds=>lA ds
 | .list ds=>lA ds
 | .dict _=>false
 | _=>true
def lA:List PyData->Bool
 | []=>true
 | d :: ds=>Fs d && lA ds
end
theorem jA:∀ {ds:List PyData},(∀ d∈ds,Fs d=true)->lA ds=true
 | [],_=>rfl
 | d :: ds,h=>by
  show (Fs d && lA ds)=true
  rw [h d List.mem_cons_self,jA fun e he=>h e (List.mem_cons_of_mem _ he)];rfl
theorem jy:∀ {ds:List PyData},(∀ d∈ds,d.canLay0=true)->PyData.canLayAll0 ds=true
 | [],_=>rfl
 | d :: ds,h=>by
  show (d.canLay0 && PyData.canLayAll0 ds)=true
  rw [h d List.mem_cons_self,jy fun e he=>h e (List.mem_cons_of_mem _ he)];rfl
structure Gd (k n:Nat) (d:PyData):Prop where
 sh:Sh k n d
 lay:d.canLay0=true
 bd:Fs d=true
theorem Gd.mono {k n k' n':Nat} {d:PyData} (h:Gd k n d) (hk:k≤k') (hn:n≤n'):Gd k' n' d:=⟨h.sh.mono hk hn,h.lay,h.bd⟩
theorem Gd.tup {k n m N:Nat} {ds:List PyData} (h:∀ d∈ds,Gd k n d) (hm:ds.length≤m) (hN:(n+3) * m+8≤N):Gd (k+1) N (.tuple ds):=
 ⟨Sh.tup (fun d hd=>(h d hd).sh) hm hN,jy fun d hd=>(h d hd).lay,jA fun d hd=>(h d hd).bd⟩
theorem Sh.lst {k n m N:Nat} {ds:List PyData} (h:∀ d∈ds,Sh k n d) (hm:ds.length≤m) (hN:(n+3) * m+8≤N):Sh (k+1) N (.list ds):=by
 obtain⟨a,b,c,e,f⟩:=Sh.all h
 refine⟨a,b,Nat.succ_le_succ c,?_⟩
 show (listText (PyData.shownAll ds)).length≤N
 have q:=listText_len_le (PyData.shownAll ds)
 have l:n * ds.length+3 * ds.length≤(n+3) * m:=by
  rw [← Nat.add_mul]
  exact Nat.mul_le_mul_left _ hm
 omega
theorem Gd.lst {k n m N:Nat} {ds:List PyData} (h:∀ d∈ds,Gd k n d) (hm:ds.length≤m) (hN:(n+3) * m+8≤N):Gd (k+1) N (.list ds):=
 ⟨Sh.lst (fun d hd=>(h d hd).sh) hm hN,jy fun d hd=>(h d hd).lay,jA fun d hd=>(h d hd).bd⟩
theorem zX:Gd 0 5000 .none:=⟨⟨rfl,rfl,Nat.le_refl _,by decide⟩,rfl,rfl⟩
theorem C1 {x:Str} (h:(PyData.str x).showable=true) (l:(PyData.str x).shown.length≤5000) (c:(PyData.str x).canLay0=true):Gd 0 5000 (.str x):=⟨⟨h,rfl,Nat.le_refl _,l⟩,c,rfl⟩
def ES:PyData->R
 | .tuple [.int a,.int b]=>(a,b)
 | _=>(0,1)
def F4:PyData->R×R
 | .tuple [x,y]=>(ES x,ES y)
 | _=>rS
end B
namespace B
open PySem PySem.Spec L2 PyProof.Rows
def FJ (t:TS):TS:=fun D σ H=>∃ M:L2.St->Hp->Prop,t { D with nx:=M } σ H/\∀ σ' H',M σ' H'->D.nx σ' H'
theorem rY {X:Cx} {st:Stmt} {t:TS} (h:QS X st t):QS X st (FJ t):=⟨by
 intro pins s σ H D I q
 obtain⟨M,q,k⟩:=q
 refine cA (h.p pins s σ H _ I q) fun f s' z=>?_
 cases f with
 | next=>obtain⟨σ',H',I',m⟩:=z;exact⟨σ',H',I',k _ _ m⟩
 | brk=>exact z
 | cont=>exact z
 | ret u=>exact z⟩
def E7 (r r' r'':R2) (ta tb tc td:TE):TE:=fun σ H Q=>ta σ H fun x H1=>tb σ H1 fun y H2=>r x y H2 fun z H3=>∃ k,z=.bl k∧
 (if k=true then tc σ H3 fun w' H4=>r' y w' H4 fun z' H5=>∃ k',z'=.bl k'/\(if k'=true then td σ H5 fun u' H6=>r'' w' u' H6 Q else Q (.bl false) H5) else Q (.bl false) H3)
theorem pk {t:Addr} {H H':Hp} (s:aw H H'):aw (iN H t) (iN H' t):=fun b o q=>by
 unfold iN at q ⊢
 by_cases c:b=t
 ·rw [if_pos c] at q;cases q
 ·rw [if_neg c] at q ⊢;exact s _ _ q
theorem z8 {t:Addr} {H H':Hp} (S:bB t H H'):aw (iN H t) (iN H' t):=fun b o q=>by
 unfold iN at q ⊢
 by_cases c:b=t
 ·rw [if_pos c] at q;cases q
 ·rw [if_neg c] at q ⊢;exact S.keep _ _ c q
theorem ui {t:Addr} {H:Hp}:aw (iN H t) H:=fun b o q=>by
 unfold iN at q
 by_cases c:b=t
 ·rw [if_pos c] at q;cases q
 ·rw [if_neg c] at q;exact q
theorem Da {t p:Addr} {H:Hp} {o:HO} (g:H p=none) (h:∃ xs,H t=some (.lst xs)):iN (upd H p o) t p=some o:=by
 have n:p≠t:=fun z=>by subst z;obtain⟨xs,e⟩:=h;rw [g] at e;cases e
 unfold iN
 rw [if_neg n,af]
theorem C9 {K:Fg} {t:Addr} {H:Hp} (h:∃ xs,H t=some (.lst xs)):bn K H (iN H t):=fun p xs q=>by
 obtain⟨ys,e⟩:=h
 rcases q with q | q
 ·rcases q with q | ⟨o,q⟩
  ·have n:p≠t:=fun z=>by subst z;rw [e] at q;cases q
   exact .inl (.inl (by unfold iN;rw [if_neg n];exact q))
  ·have n:p≠t:=fun z=>by subst z;rw [e] at q;cases q
   exact .inl (.inr ⟨o,by unfold iN;rw [if_neg n];exact q⟩)
 ·exact .inr q
theorem aq.app {K:Fg} {H:Hp}:∀ {xs ys:List V} {ds es:List PyData},aq K H xs ds->aq K H ys es->aq K H (xs++ys) (ds++es)
 | _,_,_,_,.nil,h=>h
 | _,_,_,_,.cons a t,h=>.cons a (aq.app t h)
theorem aq.takeN {K:Fg} {H:Hp}:∀ (n:Nat) {xs:List V} {ds:List PyData},aq K H xs ds->aq K H (xs.take n) (ds.take n)
 | 0,_,_,_=>.nil
 | _+1,_,_,.nil=>.nil
 | n+1,_,_,.cons h t=>.cons h (aq.takeN n t)
theorem aq.dropN {K:Fg} {H:Hp}:∀ (n:Nat) {xs:List V} {ds:List PyData},aq K H xs ds->aq K H (xs.drop n) (ds.drop n)
 | 0,_,_,h=>h
 | _+1,_,_,.nil=>.nil
 | n+1,_,_,.cons _ t=>aq.dropN n t
theorem aq.atN {K:Fg} {H:Hp}:∀ {xs:List V} {ds:List PyData},aq K H xs ds->∀ {i:Nat} {d:PyData},ds[i]?=some d->∃ x,xs[i]?=some x/\bu K H x d
 | _,_,.cons h _,0,d,e=>by
  rw [List.getElem?_cons_zero] at e
  cases e
  exact⟨_,rfl,h⟩
 | _,_,.cons _ t,i+1,d,e=>aq.atN t (i:=i) (by rw [List.getElem?_cons_succ] at e;exact e)
 | _,_,.nil,_,_,e=>by cases e
theorem aq.pick {K:Fg} {H:Hp} {xs:List V} {ds:List PyData} (h:aq K H xs ds) {r:Int} (h0:0≤r) (h1:r < xs.length):∃ v d,jm xs r=some v/\d∈ds/\bu K H v d:=by
 have hl:=h.len
 have e:ds[r.toNat]?=some (ds[r.toNat]'(by omega)):=List.getElem?_eq_getElem _
 obtain⟨v,a,b⟩:=aq.atN h e
 have q:jm xs ((r.toNat:Nat):Int)=some v:=bv a
 rw [show ((r.toNat:Nat):Int)=r by omega] at q
 exact⟨v,_,q,List.getElem_mem _,b⟩
theorem C3 {k n:Nat} {ds es:List PyData} (h:∀ d∈ds,Gd k n d) (h':∀ d∈es,Gd k n d):∀ d∈ds++es,Gd k n d:=fun d hd=>(List.mem_append.mp hd).elim (h d) (h' d)
theorem zV {k n:Nat} {ds:List PyData} (m:Nat) (h:∀ d∈ds,Gd k n d):∀ d∈ds.take m,Gd k n d:=fun d hd=>h d (List.mem_of_mem_take hd)
theorem zY {k n:Nat} {ds:List PyData} (m:Nat) (h:∀ d∈ds,Gd k n d):∀ d∈ds.drop m,Gd k n d:=fun d hd=>h d (List.mem_of_mem_drop hd)
theorem eh {xs:List V} {n:Nat}:dY xs none (some (n:Int))=xs.take n:=by
 by_cases h:n≤xs.length
 ·exact yf h
 ·unfold dY
  rw [HT.sIx_nat,HT.sIx_none,Nat.sub_zero,List.drop_zero,Nat.min_eq_right (by omega),List.take_of_length_le (Nat.le_refl _),List.take_of_length_le (by omega)]
section
variable {prog:Program} {w:World} {A:Around} {E:cJ} {s:Shared}
open HT in
theorem jr {sl:Addr} {n:Nat} {u:Tok} {Q:Int×Int×Nat->Shared->Prop} (hs:s.heap.IsSliceOf sl .none .none (.int (-1) u))
  (h:Q ((n:Int) - 1,-1,n) s):wpAny (model prog w) A (Builtin.Slice.sliceApplied (.ref sl) (pure (n:Int))) Q E s:=by
 obtain⟨os,hos,hcs,hds⟩:=id hs
 unfold Builtin.Slice.sliceApplied Builtin.Slice.sliceFields
 refine wpAny_bind (wpAny_bind (wpAny_field hos hds (x:=.none) rfl (wpAny_bind (wpAny_field hos hds (x:=.none) rfl (wpAny_bind (wpAny_field hos hds (x:=.int (-1) u) rfl (wpAny_pure ?_)))))))
 refine wpAny_bind (iF (.int (-1) u) ?_)
 show wpAny _ _ (if ((-1:Int) == 0)=true then _ else _) _ _ s
 rw [if_neg (by decide)]
 refine wpAny_bind (slicePart_none (wpAny_bind (slicePart_none (wpAny_bind (wpAny_pure ?_)))))
 show wpAny _ _ (pure ((n:Int) - 1,(-1:Int),Builtin.Slice.slicePlaces ((n:Int) - 1) (-1) (-1))) _ _ s
 have e:Builtin.Slice.slicePlaces ((n:Int) - 1) (-1) (-1)=n:=by
  unfold Builtin.Slice.slicePlaces
  rw [if_neg (by decide)]
  by_cases c:(n:Int) - 1 > -1
  ·rw [if_pos c,show (-(-1):Int)=1 by decide,Int.ediv_one];omega
  ·rw [if_neg c];omega
 rw [e]
 exact wpAny_pure h
theorem wK (xs:Array Value):((List.range xs.size).filterMap fun (m:Nat)=>xs[(((xs.size:Int) - 1)+(m:Int) * (-1)).toNat]?)=xs.toList.reverse:=by
 have key:∀ k,k≤xs.size->((List.range k).filterMap fun (m:Nat)=>xs[(((xs.size:Int) - 1)+(m:Int) * (-1)).toNat]?)=xs.toList.reverse.take k:=by
  intro k
  induction k with
  | zero=>intro _;rfl
  | succ k ih=>
   intro hk
   rw [List.range_succ,List.filterMap_append,ih (by omega),List.take_add_one]
   congr 1
   have e:(((xs.size:Int) - 1)+(k:Int) * (-1)).toNat=xs.size - 1 - k:=by omega
   rw [List.filterMap_cons,e]
   rw [List.getElem?_reverse (by rw [Array.length_toList];omega),Array.length_toList]
   rw [show xs.toList[xs.size - 1 - k]?=xs[xs.size - 1 - k]? by simp]
   cases xs[xs.size - 1 - k]? <;> rfl
 have:=key xs.size (Nat.le_refl _)
 rwa [List.take_of_length_le (by simp)] at this
open HT in
theorem ux {t sl:Addr} {items:Array Value} {u:Tok} {Q:cJ} (ht:IsTup s.heap t items) (hs:s.heap.IsSliceOf sl .none .none (.int (-1) u))
  (h:Q (.ref s.heap.objs.size) { s with heap:=s.heap.push { cls:=.type "tuple", data:=.seq items.toList.reverse.toArray } })
  (hsz:items.size≤sizeLine):wpAny (model prog w) A (getItem (.ref t) (.ref sl)) Q E s:=by
 have htake:sizeOk (.seq items.toList.reverse.toArray):=by
  show items.toList.reverse.toArray.size≤sizeLine
  rw [List.size_toArray,List.length_reverse,Array.length_toList]
  exact hsz
 obtain⟨os,hos,hcs,hds⟩:=id hs
 have hTs:s.TypeIs (.ref sl) "slice" := ⟨os,hos,hcs⟩
 unfold getItem
 try with_reducible refine wpAny_holding ?_
 first | refine wpAny_bind (wpAny_pure ?_) | skip
 refine wpAny_bind (wpAny_sequenceKey ht.typeIs (by decide) ?_)
 refine wpAny_bind (wpAny_callSpecial?_slot (name:=Str.ofString "__getitem__") ht.typeIs PyProof.Rows.slot_tuple_getitem
  (wpAny_call_entry PyProof.Rows.slot_tuple_getitem ht.typeIs entry_tuple_getitem ?_ (args_tuple_getitem _ _)))
 show wpAny _ _ (Builtin.Tuple.tupleItemsOf (.ref t) >>= _) _ _ s
 refine wpAny_bind (tupleItemsOf_ ht ?_)
 refine wpAny_bind (wpAny_typeOf hTs ?_)
 rw [if_pos (by decide)]
 refine wpAny_bind (jr hs ?_)
 have hno:¬ ((((items.size:Int) - 1) == 0 && (-1:Int) == 1 && items.size == items.size)=true):=by
  intro q
  rw [Bool.and_eq_true,Bool.and_eq_true] at q
  exact absurd q.1.2 (by decide)
 show wpAny _ _ (if (((items.size:Int) - 1) == 0 && (-1:Int) == 1 && items.size == items.size)=true then _ else _) _ _ s
 rw [if_neg hno,wK]
 first
  | exact wpAny_bind (m:=Builtin.Tuple.tupleExact _) (wpAny_newObj_type (wpAny_pure ⟨_,rfl,wpAny_pure h⟩) htake)
  | exact wpAny_bind (m:=Builtin.Tuple.tupleExact _) (wpAny_newObj_type (wpAny_bind (wpAny_pure (wpAny_pure ⟨_,rfl,wpAny_pure h⟩))) htake)
  | exact wpAny_bind (wpAny_bind (m:=Builtin.Tuple.tupleExact _) (wpAny_newObj_type (wpAny_pure (wpAny_pure ⟨_,rfl,wpAny_pure h⟩)) htake))
  | exact wpAny_bind (wpAny_bind (m:=Builtin.Tuple.tupleExact _) (wpAny_newObj_type (wpAny_pure ⟨_,rfl,wpAny_pure h⟩) htake))
end
theorem bf.rev:∀ {xs:List V} {us:List Value},bf xs us->bf xs.reverse us.reverse
 | _,_,.nil=>.nil
 | x :: xs,u :: us,.cons r t=>by
  rw [List.reverse_cons,List.reverse_cons]
  exact (bf.rev t).append (.cons r .nil)
def DD (K:Fg) (te:TE):TE:=fun σ H Q=>te σ H fun x H1=>∃ a xs,x=.ref a/\aZ K H1 a xs/\∀ p,H1 p=none->Q (.ref p) (upd H1 p (.tup xs.reverse))
theorem BZ {X:Cx} {e:Expr} {te:TE} {j:Nat} {p1 p2 p3 pos:Pos} (he:PE X e te):PE X (.Subscript e (.Slice none none (some (.UnaryOp .USub (.Constant (.int 1) j p1) p2)) p3) pos) (DD X.K te):=by
 intro pins s σ H Q I h
 refine Subscript_ (cA (he pins s σ H _ I h) fun v s1 ⟨x,H1,I1,r1,q1⟩=>?_)
 refine wpAny_Slice ?_
 rw [evalPart_none]
 refine wpAny_pure (wpAny_pure ?_)
 rw [evalPart_some]
 refine cA ((AL (X:=X) dJ (wR (i:=1))) pins s1 σ H1 (fun y H2=>y=.int (-1)/\H2=H1) I1 ⟨1,rfl,rfl,rfl⟩) fun u s2 ⟨y,H2,I2,r2,e1,e2⟩=>?_
 subst e1 e2
 obtain⟨t,rfl⟩:=r2
 obtain⟨a,xs,rfl,hx,q⟩:=q1
 cases r1
 have I4:Inv X pins σ H2 { s2 with heap:=s2.heap.push { cls:=.type "slice", data:=.fields #[.none,.none,.int (-1) t] } }:=I2.kept (t':=s2.toks) fun b ob q=>Heap.get?_push_of_some _ q
 obtain⟨its,r,ht,hz⟩:=I4.tuple hx
 have hlen:its.toArray.size=xs.length:=by rw [List.size_toArray];exact r.length.symm
 show wpAny (model X.prog X.w) X.A (subscriptTail e (.Slice none none (some (.UnaryOp .USub (.Constant (.int 1) j p1) p2)) p3) (.ref a) (.ref s2.heap.objs.size)) (EP X pins σ Q) X.xe { s2 with heap:=s2.heap.push { cls:=.type "slice", data:=.fields #[.none,.none,.int (-1) t] } }
 refine tail_any (ops:=[.ref a,.ref s2.heap.objs.size]) ht.typeIs PyProof.Rows.slot_tuple_getitem.lookup (ux ht (Heap.IsSliceOf.new ..) ?_ (by rw [hlen];exact hz)) (by with_unfolding_all rfl)
 refine⟨.ref _,_,I4.laid (t':=s2.toks) (o:=.tup xs.reverse) (fun b ob q=>Heap.get?_push_of_some _ q) (Nat.le_refl _) ?_,rfl,q _ (I4.hok.fresh (Nat.le_refl _))⟩
 exact⟨by rw [List.length_reverse];exact hz,_,bf.rev r,IsTup.new _ _⟩
theorem wk {X:Cx} {e:Expr} {te:TE} {j:Nat} {p1 p2 p3 pos:Pos} (he:QE X e te):QE X (.Subscript e (.Slice none none (some (.UnaryOp .USub (.Constant (.int 1) j p1) p2)) p3) pos) (DD X.K te):=⟨BZ he.p⟩
end B
namespace B
end B
namespace B
open PySem PySem.Spec L2 PyProof.Rows
def IG (zs:List R):Prop:=zs.Pairwise fun a b=>gD a b=true
theorem cL.take {α:Type} {P:V->α->Prop}:∀ {xs:List V} {ds:List α} (n:Nat),cL P xs ds->cL P (xs.take n) (ds.take n)
 | _,_,0,_=>by rw [List.take_zero,List.take_zero];exact .nil
 | _,_,_+1,.nil=>.nil
 | _,_,n+1,.cons h t=>.cons h (cL.take n t)
theorem cL.drop {α:Type} {P:V->α->Prop}:∀ {xs:List V} {ds:List α} (n:Nat),cL P xs ds->cL P (xs.drop n) (ds.drop n)
 | _,_,0,h=>h
 | _,_,_+1,.nil=>.nil
 | _,_,n+1,.cons _ t=>cL.drop n t
theorem cL.join {α:Type} {P:V->α->Prop}:∀ {xs ys:List V} {ds es:List α},cL P xs ds->cL P ys es->cL P (xs++ys) (ds++es)
 | _,_,_,_,.nil,k=>k
 | _,_,_,_,.cons h t,k=>.cons h (cL.join t k)
end B
namespace L2
open PySem PySem.Spec PyProof.Rows
structure gc (k:Nat) (A:Around):Prop where
 dp:A.depth+3 * k+5 < recursionLimit
 un:A.units+16 * k+200 < cLine
 gd:A.guards=some []
theorem gc.depth {k:Nat} {A:Around} (r:gc k A):A.depth < recursionLimit:=by have:=r.dp;omega
theorem gc.deeper {k:Nat} {A:Around} (r:gc (k+1) A) (env:Env):gc k (A.deeper env):=
 ⟨by have:=r.dp;show A.depth+1+3 * k+5 < _;omega,by have:=r.un;show A.units+3+16 * k+200 < _;omega,r.gd⟩
theorem dD.inM {j k:Nat} {A:Around} {v:Option Value} (r:dD k A) (h:j≤k):gc j (A.mark v):=
 ⟨by have:=r.dp;show A.depth+3 * j+5 < _;omega,by have:=r.un;show A.units+16 * j+200 < _;omega,r.gd⟩
structure nY (P:Program) (w:World) (K:Fg) (mg:Str->Option Value) (base:Heap) (CX:pG) (k:Nat) (f:Addr) (fd:FuncData) (ps:List Str) (sp:Sp):Prop where
 len:∀ vs H Q E,sp vs H Q E->vs.length=ps.length
 run:∀ (A:Around) (outer:List Env) (s:Shared) (H:Hp) (args:Args) (us:List Value) (vs:List V) (Q:VK) (E:XK),gc k A->l7 P w K mg base A outer s H->BindsTo s fd args (ps.zip us)->bf vs us->sp vs H Q E→
  codeAny (model P w) A (.call (.ref f) args) (CR CX outer P w H s Q E) s
def ET (CX:pG) (P:Program) (w:World) (K:Fg) (mg:Str->Option Value) (base:Heap) (N:List Str) (qual:Str) (scope:Scope) (f:Addr) (cd:Value) (A:Around) (outer:List Env) (s:Shared) (H:Hp) (E:XK):Cx:={ bP CX P w K mg base N qual scope f cd A outer s H E with calm:=false }
theorem sy {CX:pG} {P:Program} {w:World} {K:Fg} {mg:Str->Option Value} {base:Heap} {N ps:List Str} {qual:Str} {scope:Scope} {f:Addr} {cd:Value} {A:Around} {outer:List Env} {s s1:Shared} {H:Hp} {E:XK} {us:List Value} {vs:List V}
  (S:aO N ps scope) (e0:l7 P w K mg base A outer s H) (hl:vs.length=ps.length) (r:bf vs us)
  (x:InCallC s s.heap.objs.size (bindL (envOfC qual scope s.heap.objs.size f cd).kindOf (ps.zip us) fun _=>none) (cellsFrom (s.heap.objs.size+1) scope.names []) (bindC (envOfC qual scope s.heap.objs.size f cd).kindOf (ps.zip us) fun _=>none) s1) :
  Inv (ET CX P w K mg base N qual scope f cd A outer s H E) [] (eV N vs) H s1:=by
 have e1:l7 P w K mg base { A with handled:=none } outer s H:=⟨e0.frames,e0.mod,e0.bs,e0.bsz,e0.funs,e0.frf,e0.hok,e0.bare⟩
 have I:=nG (CX:=CX) (E:=E) S rfl e1 hl r x
 exact⟨⟨I.ok.mod,I.ok.kind,I.ok.glob,I.ok.blt,I.ok.above,I.ok.inj,I.ok.has,I.ok.cab,(fun z=>nomatch z),I.ok.frames,I.ok.stk,I.ok.exf,I.ok.bs,I.ok.bsz,I.ok.noex,I.ok.exfs,I.ok.funs,I.ok.frf⟩,I.os,I.bare,I.base,I.loc,I.cell,I.free,I.freeC,I.pin,I.hok,I.len⟩
theorem C4 {CX:pG} {P:Program} {w:World} {K:Fg} {mg:Str->Option Value} {base:Heap} {k:Nat} {f:Addr} {name qual:Str} {params:Arguments} {body:List Stmt} {scope:Scope} {dV kV doc pm cdv ct oc:Value} {an od:Option Addr}
  {osl:Array (Option Value)} {N ps:List Str} {sp:Sp} (lk:K.lookup f=some ⟨oc,od,.func (PySem.W.fnOf name qual params body scope dV kV doc pm an cdv ct),osl⟩) (hcd:PySem.W.codeIn K cdv qual=true) (S:aO N ps scope)
  (len:∀ vs H Q E,sp vs H Q E->vs.length=ps.length)
  (hbody:∀ (A:Around) (outer:List Env) (s:Shared) (H:Hp) (vs:List V) (Q:VK) (E:XK),gc k (A.deeper (envOfC qual scope s.heap.objs.size f cdv))->sp vs H Q E→
   ∃ t,nX (ET CX P w K mg base N qual scope f cdv A outer s H E) body t/\t { nx:=fun _ H'=>Q .non H',rt:=Q } (eV N vs) H) :
  nY P w K mg base CX (k+1) f (PySem.W.fnOf name qual params body scope dV kV doc pm an cdv ct) ps sp:=by
 refine⟨len,fun A outer s H args us vs Q E hr e0 hb r hsp=>?_⟩
 have hl:=len _ _ _ _ hsp
 have KX:K.In s.heap:=e0.mod.kin.keeps fun b o e=>(e0.bs b o e).1
 have lim:s.heap.NoLimit:=e0.mod.nolimit.keeps fun b o e=>(e0.bs b o e).1
 have hkind:∀ y∈ps.zip us,scope.names.lookup y.1=some .local∨(scope.names.lookup y.1=some .cell/\((cellsFrom (s.heap.objs.size+1) scope.names []).lookup y.1).isSome=true):=fun⟨n,v⟩ hy=>by
  rcases S.par n (List.of_mem_zip hy).1 with q | q
  ·exact .inl q
  ·exact .inr ⟨q,PySem.W.cellsFrom_some _ _ _ (.inl q)⟩
 refine codeAny_call_function hr.depth (KX _ _ lk) rfl S.co S.gen rfl (PySem.W.codeRec_of KX hcd) (hb _ _ _ _ ?_)
 refine wpAny_newFunctionEnv_cells S.kind hkind fun env he s1 x=>?_
 subst he
 refine⟨lim.keeps x.toInCall.keep,codeAny_func ?_⟩
 obtain⟨t,ht,hq⟩:=hbody A outer s H vs Q E (hr.deeper _) hsp
 have I:Inv (ET CX P w K mg base N qual scope f cdv A outer s H E) [] (eV N vs) H s1:=sy S e0 hl r x
 refine wpAny_mono (ht [] s1 (eV N vs) H _ I hq) (fun fl s' hs=>?_) fun e s' hs=>hs
 have fin:∀ {σ':St} {H':Hp} {v:V} {u:Value},Inv (ET CX P w K mg base N qual scope f cdv A outer s H E) [] σ' H' s'->bo v u->Q v H'->CE outer P w H s Q u s':=
  fun {σ' H' v u} J rv q=>⟨v,H',J.os,J.bare,J.base,J.hok,rv,q⟩
 cases fl with
 | ret u=>
  obtain⟨v,σ',H',J,rv,q⟩:=hs
  exact fin J rv q
 | next=>
  obtain⟨σ',H',J,q⟩:=hs
  exact fin (v:=V.non) (u:=Value.none) J rfl q
 | brk=>
  obtain⟨_,_,_,q⟩:=hs
  exact False.elim q
 | cont=>
  obtain⟨_,_,_,q⟩:=hs
  exact False.elim q
section
variable {X:Cx} {CX:pG} {k:Nat} {f C:Addr} {fd:FuncData} {ps:List Str} {sp:Sp} {dvs:List V} {ds:List Value} {E:XK} {x m:Str} {p pos apos:Pos} {e o:Expr} {es:List Expr} {ta:TE} {t:TA}
theorem yP {pins:cf} {σ:St} {H:Hp} {s:Shared} {Q:VK} {us:List Value} {vs:List V} (F:nY X.prog X.w X.K X.mg X.base CX k f fd ps sp) (hr:gc k X.A) (hb:bi X.K fd ps ds) (hd:bf dvs ds) (hx:f8 CX X E)
  (I:Inv X pins σ H s) (r:bf vs us) (h:sp (vs++dvs) H Q E):wpAny (model X.prog X.w) X.A (call (.ref f) us) (EP X pins σ Q) X.xe s:=by
 have r2:bf (vs++dvs) (us++ds):=r.append hd
 have hl:(us++ds).length=ps.length:=by rw [← r2.length];exact F.len _ _ _ _ h
 refine wpAny_call (codeAny_mono (F.run X.A X.stack s H ⟨us,[]⟩ (us++ds) (vs++dvs) Q E hr I.env0 (hb s us I.kIn hl) r2 h) fun r s' hq=>?_)
 cases r with
 | error e=>exact hx pins σ H s e s' I hq
 | ok fl=>
  cases fl with
  | ret u=>exact I.after hq
  | next=>exact False.elim hq
  | brk=>exact False.elim hq
  | cont=>exact False.elim hq
theorem wV (F:nY X.prog X.w X.K X.mg X.base CX k f fd ps sp) (hr:gc k X.A) (hg:Gl X x) (hm:X.mg x=some (.ref f)) (hk:PySem.W.keepIn X.K (.ref f)=true) (hb:bi X.K fd ps ds) (hd:bf dvs ds) (hx:f8 CX X E)
  (ha:PA X (e :: es) t) (hdb:(x == ("__debug__" : Str))=false:=by decide) (he:starEach (e :: es) X.env=(false,eval e X.env) :: starEach es X.env:=by rfl) (hpl:(backTo pos (starEach es X.env)).any (·.1)=false:=by rfl) :
  PE X (.Call (.Name x p) (e :: es) [] pos) (pV sp dvs E t):=by
 intro pins s σ H Q I h
 refine wpAny_Call_Name_kw (i5 I hg hm ?_ hdb)
 refine PySem.W.callWith_K (h₀:=X.base) I.ok.mod.kin hk (cA (ha pos pins s σ H _ I h) fun us s1 ⟨vs,H1,I1,r,q⟩=>⟨I1.kIn,?_⟩) he hpl
 exact yP F hr hb hd hx I1 r q
end
section
variable {P:Program} {w:World} {K:Fg} {mg:Str->Option Value} {base:Heap}
theorem Fun.okM {x qual:Str} {st:Stmt} {f:Addr} {fd:FuncData} {N ps:List Str} {k:Nat} {sp:Sp} (F:Fun K x qual st f fd) (S:aO N ps (ai st)) (len:∀ vs H Q E,sp vs H Q E->vs.length=ps.length)
  (hbody:∀ (cdv:Value) (A:Around) (outer:List Env) (s:Shared) (H:Hp) (vs:List V) (Q:VK) (E:XK),gc k (A.deeper (envOfC qual (ai st) s.heap.objs.size f cdv))->sp vs H Q E→
   ∃ t,nX (ET d9 P w K mg base N qual (ai st) f cdv A outer s H E).nox (aI st) t/\t { nx:=fun _ H'=>Q .non H',rt:=Q } (eV N vs) H):nY P w K mg base d9 (k+1) f fd ps sp:=by
 obtain⟨oc,od,kV,doc,pm,an,cdv,ct,osl,rfl,lk,hcd⟩:=F.ex
 refine C4 lk hcd S len fun A outer s H vs Q E hr hsp=>?_
 obtain⟨t,h,q⟩:=hbody cdv A outer s H vs Q E hr hsp
 exact⟨t,h.nox,q⟩
end
end L2
namespace B
open PySem PySem.Spec L2 PyProof.Rows
section
set_option autoImplicit true
set_option relaxedAutoImplicit true
theorem ww {X:Cx} {CX:pG} {k:Nat} {f:Addr} {fd:FuncData} {ps:List Str} {sp:Sp} {dvs:List V} {ds:List Value} {E:XK} {x:Str} {p pos:Pos} {e:Expr} {es:List Expr} {t:TA} (F:nY X.prog X.w X.K X.mg X.base CX k f fd ps sp) (hr:gc k X.A) (hg:Gl X x) (hm:X.mg x=some (.ref f)) (hk:PySem.W.keepIn X.K (.ref f)=true) (hb:bi X.K fd ps ds) (hd:bf dvs ds) (hx:f8 CX X E) (ha:QA X (e :: es) t) (hdb:(x == ("__debug__" : Str))=false:=by decide) (he:starEach (e :: es) X.env=(false,eval e X.env) :: starEach es X.env:=by rfl) (hpl:(backTo pos (starEach es X.env)).any (·.1)=false:=by rfl):QE X (.Call (.Name x p) (e :: es) [] pos) (pV sp dvs E t):=⟨wV F hr hg hm hk hb hd hx ha.p hdb he hpl⟩
end
def E1 (d:Addr) (ob:Obj) (kvs:List (cZ×V)):It:=
 ⟨fun i H=>H d=some (.frz ob (.dK kvs))/\i < kvs.length,
  fun i H x H'=>∃ p k v,H p=none/\x=.ref p/\kvs[i]?=some (k,v)/\H'=upd H p (.tup [kV k,v]),
  fun i H=>H d=some (.frz ob (.dK kvs))/\kvs.length≤i⟩
theorem KV.get:∀ {kvs:List (cZ×V)} {vs:List (cZ×Value)},KV kvs vs->∀ {i:Nat} {k:cZ} {v:V},kvs[i]?=some (k,v)->∃ u,vs[i]?=some (k,u)/\bo v u
 | _,_,.nil,i,k,v,h=>by simp at h
 | (a,b) :: r,(c,d) :: t,.cons h z,0,k,v,e=>by
  have e':(a,b)=(k,v):=by simpa using e
  cases e'
  obtain⟨h1,h2⟩:=h
  have h1':a=c:=h1
  subst h1'
  exact⟨d,rfl,h2⟩
 | _ :: r,_ :: t,.cons h z,i+1,k,v,e=>by
  obtain⟨u,q,w⟩:=KV.get z (i:=i) (by simpa using e)
  exact⟨u,by simpa using q,w⟩
theorem EF {k:cZ} {u:Value} (h:ll k u=true):bo (kV k) u:=by
 rcases ck h with ⟨i,t,rfl,rfl⟩ | ⟨x,t,rfl,rfl⟩
 ·exact⟨t,rfl⟩
 ·exact⟨t,rfl⟩
theorem C8:entryFor table "dict_itemiterator.__iter__" = some Builtin.«dict_keyiterator.__iter__»:=
 entryFor_alias (by kernel_rfl) (by first | rfl | decide +kernel | (unfold String.splitOn;simp +decide [String.splitOnAux])) (by decide +kernel) (by kernel_rfl) (id' := "dict_keyiterator.__iter__")
theorem rm {P:Program} {w:World} {K:Fg} {elts:List Expr} {x1} {pos:Pos} {it d:Addr} {ob:Obj} {kvs:List (cZ×V)} {es:Array DictEntry} {ep:Nat} (hob:ob.data=.dict es ep) :
  sR P w K (.Tuple elts x1 pos) (E1 d ob kvs) [it] it (fun i h=>∃ ok ov,IsItemIter h it d i kvs.length ep ok ov) where
 mem:=by simp
 obj:=fun i h st c hc=>by
  obtain⟨ok,ov,e⟩:=st
  rw [List.mem_singleton] at hc
  subst hc
  exact⟨_,e,fun v q=>by cases (show Data.fields _=Data.cell v from q)⟩
 keep:=fun i h h' ⟨ok,ov,e⟩ k=>⟨ok,ov,k it (by simp) _ e⟩
 item:=by
  intro X hP hw hK hc i pins s σ H E I hf st hg
  subst hP hw hK
  obtain⟨hd,hi⟩:=hg
  obtain⟨ok,ov,e⟩:=st
  obtain⟨q0,z,hds,vs,rel,o,es',ep',d1,d2,d3,d4⟩:=(show ObjOk X.prog X.w H s.heap d (.frz ob (.dK kvs)) from I.hok d _ hd)
  have eo:o=ob:=Option.some.inj (d1.symm.trans q0)
  subst eo
  rw [hob] at d3
  cases d3
  have dat:s.heap.DictAt (b8 X.prog X.w) d vs ep:=⟨o,es,d1,d2,hob,d4⟩
  obtain⟨k,v,hkv'⟩:∃ k v,kvs[i]?=some (k,v):=⟨(kvs[i]'hi).1,(kvs[i]'hi).2,List.getElem?_eq_getElem hi⟩
  obtain⟨u,hu,ru⟩:=KV.get rel hkv'
  have ndi:it≠d:=fun q=>by rw [q] at hf;have:=(hf d (by simp)).1;rw [hd] at this;cases this
  have itl:it < s.heap.objs.size:=Heap.lt_size e
  rw [rel.length] at e
  refine wpAny_pyNext_items_item e dat hu fun key h1 hkey eo tup hz hk=>⟨_,rfl,wpAny_letOwnedTupleGo_items eo fun h2 e2 sb=>?_⟩
  have nt:s.heap.objs.size≠it:=Nat.ne_of_gt itl
  have P:ObjOk X.prog X.w (upd H s.heap.objs.size (.tup [kV k,v])) h2 s.heap.objs.size (.tup [kV k,v]):=
   ⟨by show 2≤sizeLine;decide,[key,u],.cons (EF hkey) (.cons ru .nil),⟨_,sb.extBut _ _ nt tup,rfl,_,rfl⟩⟩
  have I2:Inv X pins σ (upd H s.heap.objs.size (.tup [kV k,v])) { s with heap:=h2,toks:=s.toks }:=n9 I (fun c o' n q=>by
   have n':c≠it:=fun r=>n (by simp [r])
   exact sb.extBut _ _ n' (hk c o' n' q)) hf (Nat.le_refl _) P
  refine⟨.ref s.heap.objs.size,_,I2,rfl,⟨_,k,v,I.fresh,rfl,hkv',rfl⟩,⟨key,u,by rw [rel.length];exact e2⟩,fun c hc=>?_⟩
  have hc':c=it:=by simpa using hc
  rw [hc',aJ (Ne.symm nt)]
  exact (hf it (by simp)).1
 done:=by
  intro X hP hw hK hc i pins s σ H E I hf st hg
  subst hP hw hK
  obtain⟨hd,hi⟩:=hg
  obtain⟨ok,ov,e⟩:=st
  obtain⟨q0,z,hds,vs,rel,o,es',ep',d1,d2,d3,d4⟩:=(show ObjOk X.prog X.w H s.heap d (.frz ob (.dK kvs)) from I.hok d _ hd)
  have eo:o=ob:=Option.some.inj (d1.symm.trans q0)
  subst eo
  rw [hob] at d3
  cases d3
  have dat:s.heap.DictAt (b8 X.prog X.w) d vs ep:=⟨o,es,d1,d2,hob,d4⟩
  have hh:X.A.in1.handled=none:=I.ok.hd hc
  rw [rel.length] at e hi
  refine wpAny_pyNext_items_end hh e dat (List.getElem?_eq_none hi) fun h1 ex=>⟨rfl,?_⟩
  exact og (t':=s.toks) I (fun c o' n q=>ex c o' (fun r=>n (by simp [r])) q) hf
 self:=fun A i s Q E st h=>by
  obtain⟨ok,ov,e⟩:=st
  have hT:s.TypeIs (.ref it) "dict_itemiterator" := ⟨_,e,rfl⟩
  refine wpAny_pyIter_slot hT PySem.F.slot_dict_itemiterator_iter (wpAny_call_entry PySem.F.slot_dict_itemiterator_iter hT C8 ?_ (PySem.F.args_dict_itemiterator_iter_1 _))
  show wpAny _ _ (ret (.ref it)) _ _ s
  exact wpAny_pure ⟨_,rfl, "dict_itemiterator", _,hT,PySem.F.slot_dict_itemiterator_next.lookup,h⟩
def xL (td:TE):TI:=fun σ H R=>td σ H fun x H1=>∃ d kvs,x=.ref d/\H1 d=some (.dK kvs)/\∀ ob,R (E1 d ob kvs) (upd H1 d (.frz ob (.dK kvs)))
theorem wM {X:Cx} {elts:List Expr} {x1} {tp apos pos:Pos} {o:Expr} {td:TE} (ho:PE X o td) (hb:attributeBase o "items" X.env (eval o X.env)=eval o X.env:=by rfl) (hl:(apos.endLine == pos.line)=true:=by rfl) :
  PI X (.Tuple elts x1 tp) (.Call (.Attribute o "items" apos) [] [] pos) (xL td):=by
 intro pins s σ H R I h
 refine wpAny_Call_method (T := "dict") (id := "dict.items") hb rfl hl PySem.F.plainAttrs_dict PySem.F.slot_dict_items PySem.F.type_dict_items (cA (ho pins s σ H _ I h) fun u s1 ⟨x,H1,I1,rx,d,kvs,ex,e,q⟩=>?_)
 subst ex
 obtain rfl:u=Value.ref d:=rx
 obtain⟨z,hds,vs,rel,dd⟩:=AX I1.hok e
 obtain⟨t1,t2,_⟩:=xJ I1 (.inl ⟨kvs,.inl e⟩)
 refine⟨t1,t2,?_⟩
 show wpAny _ _ (callWith pos (.builtin "dict.items") [.ref d] [] []) _ _ _
 refine method_meetsIn PySem.F.slot_dict_items PySem.F.entry_dict_items rfl (PySem.evalArgs_none ⟨rfl,t1,PySem.F.args_dict_items_1 _,_,meets_dict_items (b8 X.prog X.w) d hds,⟨vs,dd⟩,?_⟩)
 obtain⟨o',es,ep,d1,d2,d3,d4⟩:=id dd
 have dat:s1.heap.DictAt (b8 X.prog X.w) d vs ep:=⟨o',es,d1,d2,d3,d4⟩
 refine wpAny_pyIter_items (d:=d) (kvs:=vs) (ep:=ep) ⟨_,Heap.get?_push_size _ rfl,rfl,rfl⟩ (dat.push _) ?_
 have sz:(s1.heap.push { cls:=.type "dict_items", data:=.fields #[.ref d] }).objs.size=s1.heap.objs.size+1:=Heap.size_push ..
 have I2:=I1.kept (t':=s1.toks) (h':=(s1.heap.push { cls:=.type "dict_items", data:=.fields #[.ref d] }).push { cls:=.type "dict_itemiterator", data:=.fields #[.none,.bool false,.ref d,.int 0 0,.int vs.length 0,.int ep 0,.none,.none] }) fun b o q=>Heap.get?_push_of_some _ (Heap.get?_push_of_some _ q)
 have hit:=Heap.get?_push_size (s1.heap.push { cls:=.type "dict_items", data:=.fields #[.ref d] }) (o:={ cls:=.type "dict_itemiterator", data:=.fields #[.none,.bool false,.ref d,.int 0 0,.int vs.length 0,.int ep 0,.none,.none] }) rfl
 have dl:d < s1.heap.objs.size:=Heap.lt_size d1
 have k2:∀ b o,s1.heap.get? b=some o->((s1.heap.push { cls:=.type "dict_items", data:=.fields #[.ref d] }).push { cls:=.type "dict_itemiterator", data:=.fields #[.none,.bool false,.ref d,.int 0 0,.int vs.length 0,.int ep 0,.none,.none] }).get? b=some o:=fun b o q=>Heap.get?_push_of_some _ (Heap.get?_push_of_some _ q)
 generalize (s1.heap.push { cls:=.type "dict_items", data:=.fields #[.ref d] }).push { cls:=.type "dict_itemiterator", data:=.fields #[.none,.bool false,.ref d,.int 0 0,.int vs.length 0,.int ep 0,.none,.none] }=hE at I2 hit k2 ⊢
 rw [sz] at hit ⊢
 have I3:=pC (h':=hE) (t':=s1.toks) (ob:=.frz o' (.dK kvs)) I2 (by rw [e];exact True.intro) ⟨rfl,fun _ _=>rfl⟩ ⟨_,k2 _ _ d1⟩ ⟨k2 _ _ d1,z,hds,vs,rel,o',es,ep,k2 _ _ d1,d2,d3,d4⟩
 have nd:s1.heap.objs.size+1≠d:=Nat.ne_of_gt (Nat.lt_succ_of_lt dl)
 refine⟨_,[s1.heap.objs.size+1],_,_,_,rfl,I3,rm d3,⟨.none,.none,by rw [rel.length];exact hit⟩,fun c hc=>?_,q o'⟩
 have hc':c=s1.heap.objs.size+1:=by simpa using hc
 subst hc'
 exact I1.fpOk (Nat.le_succ _) (by rw [aJ nd];exact I1.hok.fresh (Nat.le_succ _))
theorem vi {d:Addr} {ob:Obj} {kvs:List (cZ×V)} {g:TG} {tb:TS} {D:iQ} {σ:L2.St} {H:Hp} (Pv:Nat->L2.St->Hp->Prop) (h0:Pv 0 σ H)
  (hl:∀ i σ H,Pv i σ H->H d=some (.frz ob (.dK kvs)))
  (hs:∀ i k v p σ H,kvs[i]?=some (k,v)->Pv i σ H->H p=none->g (.ref p) σ (upd H p (.tup [kV k,v])) fun σ2 H2=>tb { D with nx:=Pv (i+1),ct:=Pv (i+1),bk:=D.nx } σ2 H2) (hd:∀ σ H,Pv kvs.length σ H->D.nx σ H) :
  ∃ W:Nat->Nat->L2.St->Hp->Prop,(∃ m,W 0 m σ H)/\∀ i m σ H,W i m σ H→
   ((E1 d ob kvs).stop i H/\D.nx σ H)∨((E1 d ob kvs).go i H/\∃ N:L2.St->Hp->Prop,(∀ σ' H',N σ' H'->∃ m',m' < m/\W (i+1) m' σ' H')/\∀ x H',(E1 d ob kvs).yld i H x H'->g x σ H' fun σ2 H2=>tb { D with nx:=N,ct:=N,bk:=D.nx } σ2 H2):=by
 refine⟨fun i m σ H=>m=kvs.length - i/\i≤kvs.length/\Pv i σ H,⟨_,rfl,Nat.zero_le _,h0⟩,?_⟩
 rintro i m σ H ⟨rfl,hi,p⟩
 have q:=hl i σ H p
 by_cases hlt:i < kvs.length
 ·refine .inr ⟨⟨q,hlt⟩,Pv (i+1),fun σ' H' p'=>⟨kvs.length - (i+1),by omega,rfl,hlt,p'⟩,fun x H' y=>?_⟩
  obtain⟨pp,k,v,hp,rfl,hkv,rfl⟩:=y
  exact hs i k v pp σ _ hkv p hp
 ·have e:i=kvs.length:=by omega
  subst e
  exact .inl ⟨⟨q,Nat.le_refl _⟩,hd σ H p⟩
def sI (ps:List (Int×Int)):List (cZ×V):=ps.map fun p=>(Sum.inl p.1,V.int p.2)
def uz:List (Int×Int)->Int->Int
 | [],_=>0
 | (c,u) :: r,b=>if c=b then u else uz r b
def fQ:List (Int×Int)->Int->Int->List (Int×Int)
 | [],b,t=>[(b,0+t)]
 | (c,u) :: r,b,t=>if c=b then (c,u+t) :: r else (c,u) :: fQ r b t
theorem wA {p:cZ×V} {r:List (cZ×V)} {k:cZ} {v:V} (e:p.1=k) (n:∀ q∈r,q.1≠k):eT (p :: r) k v=(k,v) :: r:=by
 unfold eT
 rw [if_pos (by simp [e]),List.map_cons,if_pos e,e]
 congr 1
 exact (List.map_congr_left (g:=id) (fun q hq=>by rw [if_neg (n q hq)];rfl)).trans (List.map_id r)
theorem uV {p:cZ×V} {r:List (cZ×V)} {k:cZ} {v:V} (e:¬ p.1=k):eT (p :: r) k v=p :: eT r k v:=by
 unfold eT
 rw [List.any_cons,decide_eq_false e,Bool.false_or]
 split
 ·rw [List.map_cons,if_neg e]
 ·rfl
theorem ue:∀ (ps:List (Int×Int)) (b:Int),(ef (sI ps) (Sum.inl b)).getD (V.int 0)=V.int (uz ps b)
 | [],b=>rfl
 | (c,u) :: r,b=>by
  show (ef ((Sum.inl c,V.int u) :: sI r) (Sum.inl b)).getD (V.int 0)=V.int (if c=b then u else uz r b)
  by_cases e:c=b
  ·rw [if_pos e,cQ (by rw [e])];rfl
  ·rw [if_neg e,cR (fun z=>e (by injection z)),ue r b]
theorem tM:∀ (ps:List (Int×Int)) (b t:Int),(ps.map (·.1)).Nodup->eT (sI ps) (Sum.inl b) (V.int (uz ps b+t))=sI (fQ ps b t)
 | [],b,t,_=>rfl
 | (c,u) :: r,b,t,nd=>by
  have nd':=List.nodup_cons.mp nd
  show eT ((Sum.inl c,V.int u) :: sI r) (Sum.inl b) (V.int ((if c=b then u else uz r b)+t))=sI (if c=b then (c,u+t) :: r else (c,u) :: fQ r b t)
  by_cases e:c=b
  ·rw [if_pos e,if_pos e,wA (by rw [e]) (fun q hq z=>?_)]
   ·show _=(Sum.inl c,V.int (u+t)) :: sI r
    rw [e]
   ·obtain⟨p,hp,rfl⟩:=List.mem_map.mp hq
    have z':p.1=b:=by injection z
    exact nd'.1 (List.mem_map.mpr ⟨p,hp,z'.trans e.symm⟩)
  ·rw [if_neg e,if_neg e,uV (fun z=>e (by injection z)),tM r b t nd'.2]
   rfl
def iU:List (Int×Int)->Rat
 | []=>0
 | p :: r=>(p.2:Rat) / (p.1:Rat)+iU r
theorem Al {a b c:Rat}:(a+b) / c=a / c+b / c:=by rw [Rat.div_def,Rat.div_def,Rat.div_def,Rat.add_mul]
theorem pX:∀ (ps:List (Int×Int)) (b t:Int),iU (fQ ps b t)=iU ps+(t:Rat) / (b:Rat)
 | [],b,t=>by
  show ((0+t:Int):Rat) / (b:Rat)+0=0+(t:Rat) / (b:Rat)
  rw [Int.zero_add];grind
 | (c,u) :: r,b,t=>by
  show iU (if c=b then (c,u+t) :: r else (c,u) :: fQ r b t)=(u:Rat) / (c:Rat)+iU r+(t:Rat) / (b:Rat)
  by_cases e:c=b
  ·rw [if_pos e]
   show ((u+t:Int):Rat) / (c:Rat)+iU r=_
   rw [Rat.intCast_add,Al,e]
   grind
  ·rw [if_neg e]
   show (u:Rat) / (c:Rat)+iU (fQ r b t)=_
   rw [pX r b t]
   grind
theorem mw:∀ (ps:List (Int×Int)) (p:Int×Int),iU (ps++[p])=iU ps+(p.2:Rat) / (p.1:Rat)
 | [],p=>by show (p.2:Rat) / (p.1:Rat)+0=0+_;grind
 | q :: r,p=>by
  show (q.2:Rat) / (q.1:Rat)+iU (r++[p])=(q.2:Rat) / (q.1:Rat)+iU r+_
  rw [mw r p];grind
structure jY (n i:Nat) (ps:List (Int×Int)):Prop where
 nd:(ps.map (·.1)).Nodup
 len:ps.length≤i
 bot:∀ p∈ps,0 < p.1/\p.1.natAbs < 2 ^ n
 top:∀ p∈ps,p.2.natAbs≤i * 2 ^ n
theorem jf:∀ (ps:List (Int×Int)) (b t:Int) (c:Int),c∈(fQ ps b t).map (·.1)↔c∈ps.map (·.1)∨c=b
 | [],b,t,c=>by simp [fQ]
 | (d,u) :: r,b,t,c=>by
  show c∈(if d=b then (d,u+t) :: r else (d,u) :: fQ r b t).map (·.1)↔_
  by_cases e:d=b
  ·rw [if_pos e]
   constructor
   ·intro h;exact .inl h
   ·rintro (h | h)
    ·exact h
    ·exact List.mem_cons.mpr (.inl (h.trans e.symm))
  ·rw [if_neg e,List.map_cons,List.map_cons,List.mem_cons,List.mem_cons,jf r b t c]
   exact or_assoc.symm
theorem yq:∀ (ps:List (Int×Int)) (b t:Int),(ps.map (·.1)).Nodup->((fQ ps b t).map (·.1)).Nodup
 | [],b,t,_=>by simp [fQ]
 | (d,u) :: r,b,t,nd=>by
  have nd':=List.nodup_cons.mp nd
  show ((if d=b then (d,u+t) :: r else (d,u) :: fQ r b t).map (·.1)).Nodup
  by_cases e:d=b
  ·rw [if_pos e];exact nd
  ·rw [if_neg e,List.map_cons,List.nodup_cons]
   refine⟨fun z=>?_,yq r b t nd'.2⟩
   rcases (jf r b t d).mp z with h | h
   ·exact nd'.1 h
   ·exact e h
theorem uv:∀ (ps:List (Int×Int)) (b t:Int),(fQ ps b t).length≤ps.length+1
 | [],b,t=>Nat.le_refl 1
 | (d,u) :: r,b,t=>by
  show (if d=b then (d,u+t) :: r else (d,u) :: fQ r b t).length≤_
  split
  ·exact Nat.le_succ _
  ·exact Nat.succ_le_succ (uv r b t)
theorem uu:∀ (ps:List (Int×Int)) (b t:Int) (M N:Nat),(∀ p∈ps,p.2.natAbs≤M)->t.natAbs≤N->∀ p∈fQ ps b t,p.2.natAbs≤M+N
 | [],b,t,M,N,_,ht,p,hp=>by
  have e:p=(b,0+t):=by simpa [fQ] using hp
  rw [e]
  show (0+t).natAbs≤M+N
  omega
 | (d,u) :: r,b,t,M,N,h,ht,p,hp=>by
  have hu:u.natAbs≤M:=h (d,u) List.mem_cons_self
  have hr:∀ q∈r,q.2.natAbs≤M:=fun q hq=>h q (List.mem_cons_of_mem _ hq)
  have hp':p∈(if d=b then (d,u+t) :: r else (d,u) :: fQ r b t):=hp
  split at hp'
  ·rcases List.mem_cons.mp hp' with e | e
   ·rw [e]
    show (u+t).natAbs≤M+N
    omega
   ·have:=hr p e
    omega
  ·rcases List.mem_cons.mp hp' with e | e
   ·rw [e]
    show u.natAbs≤M+N
    omega
   ·exact uu r b t M N hr ht p e
theorem jY.add {n i:Nat} {ps:List (Int×Int)} (h:jY n i ps) {r:R} (w:Wf n r):jY n (i+1) (fQ ps r.2 r.1) where
 nd:=yq ps r.2 r.1 h.nd
 len:=Nat.le_trans (uv ps r.2 r.1) (Nat.succ_le_succ h.len)
 bot:=fun p hp=>by
  rcases (jf ps r.2 r.1 p.1).mp (List.mem_map.mpr ⟨p,hp,rfl⟩) with z | z
  ·obtain⟨q,hq,e⟩:=List.mem_map.mp z
   rw [← e]
   exact h.bot q hq
  ·rw [z];exact⟨w.pos,w.bot⟩
 top:=fun p hp=>by
  have:=uu ps r.2 r.1 (i * 2 ^ n) (2 ^ n) h.top (Nat.le_of_lt w.top) p hp
  rw [Nat.add_mul,Nat.one_mul]
  exact this
theorem jY.nil (n:Nat):jY n 0 []:=⟨List.nodup_nil,Nat.le_refl _,(fun _ h=>nomatch h),(fun _ h=>nomatch h)⟩
theorem jY.wf {n i:Nat} {ps:List (Int×Int)} (h:jY n i ps) (hi:i≤255) {p:Int×Int} (hp:p∈ps):Wf (n+8) (fe p.2 p.1):=by
 refine kX (h.bot p hp).1 ?_ (Nat.lt_of_lt_of_le (h.bot p hp).2 (Nat.pow_le_pow_right (by decide) (by omega)))
 have a:=h.top p hp
 have b:i * 2 ^ n≤255 * 2 ^ n:=Nat.mul_le_mul_right _ hi
 have c:0 < 2 ^ n:=Nat.pow_pos (by decide)
 rw [Nat.pow_add]
 omega
def jR:List R->Rat
 | []=>0
 | r :: t=>val r+jR t
theorem me:∀ (rs:List R) (r:R),jR (rs++[r])=jR rs+val r
 | [],r=>by show val r+0=0+val r;grind
 | q :: t,r=>by show val q+jR (t++[r])=val q+jR t+val r;rw [me t r];grind
theorem pO:∀ (rs:List R) (acc:R),lM acc->(∀ r∈rs,lM r)->lM (rs.foldl de acc)/\val (rs.foldl de acc)=val acc+jR rs
 | [],acc,ha,_=>⟨ha,by show val acc=val acc+0;grind⟩
 | r :: t,acc,ha,h=>by
  have hr:=h r List.mem_cons_self
  obtain⟨a,b⟩:=pO t (de acc r) (wI ha hr) fun q hq=>h q (List.mem_cons_of_mem _ hq)
  refine⟨a,?_⟩
  rw [List.foldl_cons,b,pN ha.pos hr.pos]
  show val acc+val r+jR t=val acc+(val r+jR t)
  grind
theorem kj:val (0,1)=0:=by decide +kernel
theorem rT:lM (0,1):=⟨by decide,by decide⟩
theorem sZ {rs:List R} (h:∀ r∈rs,lM r):lM (ge rs)/\val (ge rs)=jR rs:=by
 obtain⟨a,b⟩:=pO rs (0,1) rT h
 refine⟨a,b.trans ?_⟩
 rw [kj];grind
theorem Bb {rs:List R} {x:R} (h:∀ r∈rs,lM r) (hx:lM x) (e:val x=jR rs):x=ge rs:=
 yE hx (sZ h).1 (e.trans (sZ h).2.symm)
theorem Wf.red {n:Nat} {r:R} (h:Wf n r):lM r:=⟨h.pos,h.cop⟩
theorem tz (n:Nat):∀ (rs:List R) (m:Nat) (acc:R),Wf m acc->(∀ r∈rs,Wf n r)->Wf (m+(n+1) * rs.length) (rs.foldl de acc)
 | [],m,acc,ha,_=>ha
 | r :: t,m,acc,ha,h=>by
  refine (tz n t (m+n+1) (de acc r) (tN ha (h r List.mem_cons_self)) fun q hq=>h q (List.mem_cons_of_mem _ hq)).mono ?_
  rw [List.length_cons,Nat.mul_succ]
  omega
theorem tw {n:Nat} {rs:List R} (h:∀ r∈rs,Wf n r):Wf (1+(n+1) * rs.length) (ge rs):=tz n rs 1 (0,1) sV h
section
set_option autoImplicit true
set_option relaxedAutoImplicit true
theorem kJ   : QE X (.Dict [] [] pos) vU:=⟨wS ⟩
theorem wm  (hu:X.A.units+1 < cLine) (ho:QE X o td) (he:QE X e ty) (hf:QE X f tx) (m:M2 X o "get" apos e f cpos):QE X (.Call (.Attribute o "get" apos) [e,f] [] cpos) (vV td ty tx):=⟨wT hu ho.p he.p hf.p m⟩
theorem oN  (hu:X.A.units+1 < cLine) (ho:QE X o td) (hi:QE X i ty) (hv:QE X value tv) (hs:swapsWith value (some (.Subscript o i pos')) pos.line X.env=pure false):QS X (.Assign [.Subscript o i pos'] value pos) (AF td ty tv):=⟨zd hu ho.p hi.p hv.p hs⟩
theorem wg  {X:Cx} {elts:List Expr} {x1} {tp apos pos:Pos} {o:Expr} {td:TE} (ho:QE X o td) (hb:attributeBase o "items" X.env (eval o X.env)=eval o X.env:=by rfl) (hl:(apos.endLine == pos.line)=true:=by rfl):QI X (.Tuple elts x1 tp) (.Call (.Attribute o "items" apos) [] [] pos) (xL td):=⟨wM ho.p hb hl⟩
end
end B
namespace B
abbrev Pl:=Nat×Nat
def dg (p:Pl):Int:=(p.2:Int) - p.1+1
def pH (p q:Pl):Prop:=p.1 < q.1∨(p.1=q.1/\q.2≤p.2)
structure pJ (S:Pl->Prop) (L:Pl->Int) (p:Pl):Prop where
 inn:S p
 all:∀ q,S q->L q * dg p < L p * dg q∨(L q * dg p=L p * dg q/\pH p q)
def jX (n:Nat) (p:Pl):Prop:=p.1≤p.2/\p.2 < n
theorem jX.pos {n:Nat} {p:Pl} (h:jX n p):0 < dg p:=by unfold dg;have:=h.1;omega
theorem z9 {l p q lr lp lq:Int} (hr:0 < lr) (hp:0 < lp) (hq:0 < lq) (h1:l * lp≤p * lr) (h2:p * lq < q * lp):l * lq < q * lr:=by
 refine Int.lt_of_mul_lt_mul_right (a:=lp) ?_ (Int.le_of_lt hp)
 have a1:l * lq * lp=l * lp * lq:=Int.mul_right_comm _ _ _
 have a2:q * lr * lp=q * lp * lr:=Int.mul_right_comm _ _ _
 have b1:l * lp * lq≤p * lr * lq:=Int.mul_le_mul_of_nonneg_right h1 (Int.le_of_lt hq)
 have b2:p * lr * lq=p * lq * lr:=Int.mul_right_comm _ _ _
 have b3:p * lq * lr < q * lp * lr:=Int.mul_lt_mul_of_pos_right h2 hr
 omega
theorem Aa {l p q lr lp lq:Int} (hr:0 < lr) (hp:0 < lp) (hq:0 < lq) (h1:l * lp < p * lr) (h2:p * lq≤q * lp):l * lq < q * lr:=by
 refine Int.lt_of_mul_lt_mul_right (a:=lp) ?_ (Int.le_of_lt hp)
 have a1:l * lq * lp=l * lp * lq:=Int.mul_right_comm _ _ _
 have a2:q * lr * lp=q * lp * lr:=Int.mul_right_comm _ _ _
 have b1:l * lp * lq < p * lr * lq:=Int.mul_lt_mul_of_pos_right h1 hq
 have b2:p * lr * lq=p * lq * lr:=Int.mul_right_comm _ _ _
 have b3:p * lq * lr≤q * lp * lr:=Int.mul_le_mul_of_nonneg_right h2 (Int.le_of_lt hr)
 omega
theorem Ab {l p q lr lp lq:Int} (hp:0 < lp) (h1:l * lp=p * lr) (h2:p * lq=q * lp):l * lq=q * lr:=by
 refine Int.eq_of_mul_eq_mul_right (a:=lp) (Int.ne_of_gt hp) ?_
 have a1:l * lq * lp=l * lp * lq:=Int.mul_right_comm _ _ _
 have a2:q * lr * lp=q * lp * lr:=Int.mul_right_comm _ _ _
 have b2:p * lr * lq=p * lq * lr:=Int.mul_right_comm _ _ _
 rw [a1,a2,h1,b2,h2]
theorem pJ.more {n:Nat} {S S':Pl->Prop} {L:Pl->Int} {p q:Pl} (h:pJ S L p) (st:∀ r,S' r->jX n r) (e:∀ r,S' r↔S r∨r=q) (gt:L p * dg q < L q * dg p):pJ S' L q:=by
 have iq:S' q:=(e q).mpr (.inr rfl)
 have ip:S' p:=(e p).mpr (.inl h.inn)
 refine⟨iq,fun r hr=>?_⟩
 rcases (e r).mp hr with z | z
 ·refine .inl (z9 (st r hr).pos (st p ip).pos (st q iq).pos ?_ gt)
  rcases h.all r z with z | ⟨z,_⟩
  ·exact Int.le_of_lt z
  ·exact Int.le_of_eq z
 ·subst z
  exact .inr ⟨rfl,.inr ⟨rfl,Nat.le_refl _⟩⟩
theorem pJ.stay {S S':Pl->Prop} {L:Pl->Int} {p q:Pl} (h:pJ S L p) (e:∀ r,S' r↔S r∨r=q) (le:L q * dg p≤L p * dg q) (o:pH p q∨L q * dg p≠L p * dg q):pJ S' L p:=by
 refine⟨(e p).mpr (.inl h.inn),fun r hr=>?_⟩
 rcases (e r).mp hr with z | z
 ·exact h.all r z
 ·subst z
  by_cases c:L r * dg p=L p * dg r
  ·rcases o with o | o
   ·exact .inr ⟨c,o⟩
   ·exact absurd c o
  ·exact .inl (by omega)
theorem pJ.longer {n:Nat} {S S':Pl->Prop} {L:Pl->Int} {p q:Pl} (h:pJ S L p) (st:∀ r,S' r->jX n r) (e:∀ r,S' r↔S r∨r=q) (eq:L q * dg p=L p * dg q) (b:q.1=p.1) (l:p.2≤q.2):pJ S' L q:=by
 have iq:S' q:=(e q).mpr (.inr rfl)
 have ip:S' p:=(e p).mpr (.inl h.inn)
 refine⟨iq,fun r hr=>?_⟩
 rcases (e r).mp hr with z | z
 ·rcases h.all r z with z | ⟨z,o⟩
  ·exact .inl (Aa (st r hr).pos (st p ip).pos (st q iq).pos z (Int.le_of_eq eq.symm))
  ·refine .inr ⟨Ab (st p ip).pos z eq.symm,?_⟩
   unfold pH at o ⊢
   omega
 ·subst z
  exact .inr ⟨rfl,.inr ⟨rfl,Nat.le_refl _⟩⟩
theorem pJ.congr {S S':Pl->Prop} {L:Pl->Int} {p:Pl} (h:pJ S L p) (e:∀ r,S' r↔S r):pJ S' L p:=⟨(e p).mpr h.inn,fun q hq=>h.all q ((e q).mp hq)⟩
def GV (n b e:Nat) (p:Pl):Prop:=jX n p/\(p.1 < b∨(p.1=b/\e≤p.2))
def eN (n b e:Nat) (p:Pl):Prop:=jX n p/\(p.1 < b∨(p.1=b/\p.2 < e))
theorem rK {n b e:Nat} (h1:b≤e) (h2:e < n) (r:Pl):eN n b (e+1) r↔eN n b e r∨r=(b,e):=by
 obtain⟨x,y⟩:=r
 unfold eN jX
 rw [Prod.mk.injEq]
 simp only
 omega
theorem rL {n b:Nat} (r:Pl):eN n (b+1) (b+1) r↔eN n b n r:=by
 obtain⟨x,y⟩:=r
 unfold eN jX
 simp only
 omega
theorem mB {n:Nat} (r:Pl):jX n r↔eN n n n r:=by
 obtain⟨x,y⟩:=r
 unfold eN jX
 simp only
 omega
abbrev Wn:=Option (Nat×Nat)
def fL (b e:Nat):Wn->Bool
 | none=>false
 | some (x,y)=>decide (b≤x) && decide (y≤e)
def cw (ws:List Wn) (p:Pl):List Nat:=(List.range ws.length).filter fun i=>fL p.1 p.2 (ws.getD i none)
def gB (ws:List Wn) (A:Nat->Int) (p:Pl):Int:=((cw ws p).map A).sum
theorem kq {A:Nat->Int} (h:∀ i,0≤A i):∀ l:List Nat,0≤(l.map A).sum
 | []=>Int.le_refl _
 | x :: l=>by
  rw [List.map_cons,List.sum_cons]
  have:=h x
  have:=kq h l
  omega
end B
namespace B
open PySem PySem.Spec L2 PyProof.Rows
def b6 (ns:List Int):List Int:=ns.foldl step_dedup []
theorem rV (ns:List Int):(List.range ns.length).map (fun i=>ns.getD i 0)=ns:=by
 apply List.ext_getElem
 ·simp
 ·intro i h1 h2
  rw [List.getElem_map,List.getElem_range,List.getD_eq_getElem?_getD,List.getElem?_eq_getElem h2]
  rfl
theorem qM (ns:List Int):firstMet (fun i=>ns.getD i 0) ns.length=b6 ns:=by
 unfold firstMet b6
 rw [rV]
theorem d5:∀ (ns σ:List Int),σ.Nodup->(ns.foldl step_dedup σ).Nodup/\(∀ k,k∈ns.foldl step_dedup σ↔k∈σ∨k∈ns)/\(ns.foldl step_dedup σ).length≤σ.length+ns.length∧
  ((ns.foldl step_dedup σ).length=σ.length+ns.length↔(σ++ns).Nodup)
 | [],σ,h=>⟨h,fun k=>by simp,by simp,by simp [h]⟩
 | n :: ns,σ,h=>by
  rw [List.foldl_cons]
  by_cases c:σ.any (· == n)=true
  ·have e:step_dedup σ n=σ:=by unfold step_dedup;rw [if_pos c]
   rw [e]
   obtain⟨a1,a2,a3,a4⟩:=d5 ns σ h
   have hm:n∈σ:=by
    obtain⟨x,hx,q⟩:=List.any_eq_true.mp c
    rw [← show x=n from by simpa using q];exact hx
   refine⟨a1,fun k=>?_,by rw [List.length_cons];omega,?_⟩
   ·rw [a2,List.mem_cons]
    constructor
    ·rintro (h | h)
     ·exact .inl h
     ·exact .inr (.inr h)
    ·rintro (h | h | h)
     ·exact .inl h
     ·rw [h];exact .inl hm
     ·exact .inr h
   ·constructor
    ·intro q;rw [List.length_cons] at q;omega
    ·intro q
     exact absurd rfl ((List.nodup_append.mp q).2.2 n hm n List.mem_cons_self)
  ·have e:step_dedup σ n=σ++[n]:=by unfold step_dedup;rw [if_neg c]
   rw [e]
   have hm:n∉σ:=fun hx=>c (List.any_eq_true.mpr ⟨n,hx,by simp⟩)
   have h':(σ++[n]).Nodup:=List.nodup_append.mpr ⟨h,by simp,fun a ha b hb=>by
    rw [List.mem_singleton] at hb
    intro z;rw [z,hb] at ha;exact hm ha⟩
   obtain⟨a1,a2,a3,a4⟩:=d5 ns (σ++[n]) h'
   refine⟨a1,fun k=>?_,?_,?_⟩
   ·rw [a2,List.mem_append,List.mem_singleton,List.mem_cons,or_assoc]
   ·rw [List.length_append,List.length_singleton] at a3;rw [List.length_cons];omega
   ·rw [List.length_append,List.length_singleton,List.append_assoc] at a4
    rw [← show [n]++ns=n :: ns from rfl,← a4,List.length_append,List.length_singleton]
    omega
theorem lR (ns:List Int):(b6 ns).Nodup:=(d5 ns [] (by simp)).1
theorem qz (ns:List Int) (k:Int):k∈b6 ns↔k∈ns:=by
 have:=(d5 ns [] (by simp)).2.1 k
 unfold b6
 simpa using this
theorem fW (ns:List Int):(b6 ns).length≤ns.length:=by
 have:=(d5 ns [] (by simp)).2.2.1
 unfold b6
 simpa using this
def GH (K:Fg):List V->Hp->VK->Prop:=fun xs H Q=>∃ p ns,xs=[.ref p]/\bj K H p (ns.map V.int)/\ns.length≤1000/\∀ l,H l=none->Q (.ref l) (upd H l (.set (fun k=>(b6 ns).any (· == k)) (b6 ns).length))
def GI:List V->Hp->VK->Prop:=fun xs H Q=>∃ p S n,xs=[.ref p]/\H p=some (.set S n)/\Q (.int n) H
def jG (xs:Array Nat):Prop:=∀ i j (_:i < j) (hj:j < xs.size),xs[i]'(by omega) < xs[j]
theorem lJ {xs:Array Nat} {j:Nat}:∀ (fuel lo hi:Nat),lo≤hi->hi≤xs.size->hi - lo≤fuel->jG xs->(∀ i (h:i < xs.size),i < lo->xs[i] < j)->(∀ i (h:i < xs.size),hi≤i->j≤xs[i])→
  lo≤SetTable.below.go xs j fuel lo hi/\SetTable.below.go xs j fuel lo hi≤hi/\(∀ i (h:i < xs.size),i < SetTable.below.go xs j fuel lo hi->xs[i] < j)/\(∀ i (h:i < xs.size),SetTable.below.go xs j fuel lo hi≤i->j≤xs[i])
 | 0,lo,hi,h1,h2,h3,_,a,b=>by
  unfold SetTable.below.go
  exact⟨Nat.le_refl _,h1,a,fun i h q=>b i h (by omega)⟩
 | fuel+1,lo,hi,h1,h2,h3,R,a,b=>by
  unfold SetTable.below.go
  by_cases c:lo < hi
  ·rw [if_pos c]
   have hm:(lo+hi) / 2 < xs.size:=by omega
   have e:xs.getD ((lo+hi) / 2) j=xs[(lo+hi) / 2]:=by simp [Array.getD,hm]
   dsimp only
   rw [e]
   by_cases d:xs[(lo+hi) / 2] < j
   ·rw [if_pos d]
    obtain⟨c1,c2,c3,c4⟩:=lJ fuel ((lo+hi) / 2+1) hi (by omega) h2 (by omega) R (fun i h q=>by
     by_cases z:i=(lo+hi) / 2
     ·subst z;exact d
     ·exact Nat.lt_trans (R i ((lo+hi) / 2) (by omega) hm) d) b
    exact⟨by omega,c2,c3,c4⟩
   ·rw [if_neg d]
    obtain⟨c1,c2,c3,c4⟩:=lJ fuel lo ((lo+hi) / 2) (by omega) (by omega) (by omega) R a (fun i h q=>by
     by_cases z:i=(lo+hi) / 2
     ·subst z;omega
     ·have:=R ((lo+hi) / 2) i (by omega) h
      omega)
    exact⟨c1,by omega,c3,c4⟩
  ·rw [if_neg c]
   exact⟨Nat.le_refl _,h1,a,fun i h q=>b i h (by omega)⟩
theorem lI {xs:Array Nat} (R:jG xs) (j:Nat):SetTable.below xs j≤xs.size/\(∀ i (h:i < xs.size),i < SetTable.below xs j->xs[i] < j)/\(∀ i (h:i < xs.size),SetTable.below xs j≤i->j≤xs[i]):=by
 have:=lJ (xs:=xs) (j:=j) xs.size 0 xs.size (Nat.zero_le _) (Nat.le_refl _) (by omega) R (fun i h q=>by omega) (fun i h q=>by omega)
 exact this.2
theorem lK {xs:Array Nat} (R:jG xs) {i j:Nat} (hi:i≤xs.size) (lo:∀ k (h:k < xs.size),k < i->xs[k] < j) (hi':∀ k (h:k < xs.size),i≤k->j≤xs[k]):SetTable.below xs j=i:=by
 obtain⟨a,b,c⟩:=lI R j
 rcases Nat.lt_trichotomy (SetTable.below xs j) i with h | h | h
 ·have h1:=c (SetTable.below xs j) (by omega) (Nat.le_refl _)
  have h2:=lo (SetTable.below xs j) (by omega) h
  omega
 ·exact h
 ·have h1:=b i (by omega) h
  have h2:=hi' i (by omega) (Nat.le_refl _)
  omega
theorem sL {xs:Array Nat} (R:jG xs):SetTable.below xs 0=0:=lK R (Nat.zero_le _) (fun _ _ h=>by omega) (fun _ _ _=>Nat.zero_le _)
theorem sN {xs:Array Nat} (R:jG xs) {i:Nat} (h:i < xs.size):SetTable.below xs (xs[i]+1)=i+1:=
 lK R h (fun k hk q=>by
  by_cases z:k=i
  ·subst z;omega
  ·exact Nat.lt_succ_of_lt (R k i (by omega) h)) (fun k hk q=>R i k (by omega) hk)
theorem vC {xs:Array Nat} (R:jG xs) {i:Nat} (h:i < xs.size):SetTable.below xs xs[i]=i:=
 lK R (Nat.le_of_lt h) (fun k hk q=>R k i q h) (fun k hk q=>by
  by_cases z:k=i
  ·subst z;omega
  ·exact Nat.le_of_lt (R i k (by omega) hk))
theorem jV {t:SetTable} {j:Nat} (R:jG t.place) (h:t.slot j=.empty):∀ i (q:i < t.place.size),t.place[i]≠j:=by
 intro i q e
 unfold SetTable.slot at h
 dsimp only at h
 rw [← e,vC R q] at h
 simp [q] at h
theorem ql {xs:Array Nat} (R:jG xs) {j:Nat} (n:∀ i (q:i < xs.size),xs[i]≠j):jG (SetTable.insertAt xs (SetTable.below xs j) j):=by
 obtain⟨a,b,c⟩:=lI R j
 have el:=SetTable.toList_insertAt xs (SetTable.below xs j) j
 have P:xs.toList.Pairwise (· < ·):=by
  rw [List.pairwise_iff_getElem]
  intro i k hi hk q
  exact R i k q (by simpa using hk)
 suffices S:(SetTable.insertAt xs (SetTable.below xs j) j).toList.Pairwise (· < ·) by
  rw [List.pairwise_iff_getElem] at S
  intro i k q hk
  exact S i k (by simpa using Nat.lt_trans q hk) (by simpa using hk) q
 rw [el]
 have s1:∀ x∈xs.toList.take (SetTable.below xs j),x < j:=by
  intro x hx
  obtain⟨i,hi,rfl⟩:=List.mem_iff_getElem.mp hx
  rw [List.getElem_take]
  have hi2:i < SetTable.below xs j:=by rw [List.length_take] at hi;omega
  exact b i (by omega) hi2
 have s2:∀ x∈xs.toList.drop (SetTable.below xs j),j < x:=by
  intro x hx
  obtain⟨i,hi,rfl⟩:=List.mem_iff_getElem.mp hx
  rw [List.getElem_drop]
  rw [List.length_drop,Array.length_toList] at hi
  have h1:=c (SetTable.below xs j+i) (by omega) (by omega)
  have h2:=n (SetTable.below xs j+i) (by omega)
  show j < xs[SetTable.below xs j+i]
  omega
 rw [List.pairwise_append]
 refine⟨P.sublist (List.take_sublist _ _),List.pairwise_cons.mpr ⟨s2,P.sublist (List.drop_sublist _ _)⟩,fun x hx y hy=>?_⟩
 rcases List.mem_cons.mp hy with rfl | hy
 ·exact s1 x hx
 ·exact Nat.lt_trans (s1 x hx) (s2 y hy)
theorem nJ (j:Nat):SetTable.has #[] j=false:=by
 unfold SetTable.has
 simp
theorem kK {t:SetTable} (hd:t.dummies=#[]) (h:Int):∀ (fuel:Nat) (p:SetTable.Probe) (m:SetTable.Met),p.dummy=none->SetTable.probe.go t (fun _=>h+1) h fuel p=some m->∃ j,m=.empty j none/\t.slot j=.empty
 | 0,p,m,_,e=>by unfold SetTable.probe.go at e;cases e
 | fuel+1,p,m,z,e=>by
  unfold SetTable.probe.go at e
  split at e
  ·rename_i hs
   cases e
   exact⟨p.j,by rw [z],hs⟩
  ·rename_i hs
   unfold SetTable.slot at hs
   dsimp only at hs
   rw [hd,nJ] at hs
   split at hs <;> simp at hs
  ·rw [if_neg (by simp;omega)] at e
   refine kK hd h fuel _ m ?_ e
   unfold SetTable.advance
   split <;> exact z
theorem lU {t:SetTable} (hd:t.dummies=#[]) {h:Int} {j:Nat} {b:Bool} (e:t.freeSlot h=some (j,b)):t.slot j=.empty:=by
 unfold SetTable.freeSlot at e
 cases q:t.probe (fun _=>h+1) h (t.probeStart h) with
 | none=>rw [q] at e;cases e
 | some m=>
  obtain⟨j',rfl,hs⟩:=kK hd h _ _ m rfl q
  rw [q] at e
  simp only [Option.getD_none,Option.isSome_none,Option.some.injEq,Prod.mk.injEq] at e
  rw [← e.1];exact hs
def sS (t:SetTable):Prop:=t.plain=true->t.dummies=#[]/\jG t.place
theorem rn (a b:Nat) (led:Bool):sS (.fresh a b led):=fun _=>⟨rfl,fun i j h hj=>absurd hj (by simp [SetTable.fresh])⟩
theorem pT {t:SetTable} (T:sS t) (es:Array (Int×Value)) (h:Int) (x:Value):sS (layNew t es h x).2.1/\(layNew t es h x).2.1.led=t.led:=by
 unfold layNew
 split
 ·rename_i j b e
  dsimp only
  unfold SetTable.orStandIn
  split
  ·refine⟨fun hp=>?_,rfl⟩
   have hp':t.plain=true:=hp
   obtain⟨d,R⟩:=T hp'
   refine⟨?_,ql R (jV R (lU d e))⟩
   show (if SetTable.has t.dummies j then _ else t.dummies)=#[]
   rw [d,nJ];rfl
  ·exact⟨fun hp=>absurd hp (by simp [SetTable.standIn]),rfl⟩
 ·exact⟨fun hp=>absurd hp (by simp [SetTable.standIn]),rfl⟩
theorem uR (n:Nat) (f:Nat->Option Nat):jG ((((List.range n).filterMap fun j=>(f j).map (j,·)).map (·.1)).toArray):=by
 have S:(((List.range n).filterMap fun j=>(f j).map (j,·)).map (·.1)).Pairwise (· < ·):=by
  rw [List.map_filterMap]
  refine List.Pairwise.filterMap _ (R:=(· < ·)) (fun a b h x hx y hy=>?_) List.pairwise_lt_range
  simp only [Option.map_map,Option.map_eq_some_iff] at hx hy
  obtain⟨_,_,rfl⟩:=hx
  obtain⟨_,_,rfl⟩:=hy
  exact h
 intro i k q hk
 rw [List.pairwise_iff_getElem] at S
 simp only [List.getElem_toArray]
 exact S i k (by simpa using Nat.lt_trans q hk) (by simpa using hk) q
theorem lN {t:SetTable} (es:Array (Int×Value)) (n:Nat):sS (relayAll t es n).2.1/\(relayAll t es n).2.1.led=t.led:=by
 unfold relayAll
 split
 ·rename_i t' order e
  dsimp only
  split
  ·unfold SetTable.relaid SetTable.laid at e
   cases q:SetTable.layClean (SetTable.sizeAbove n - 1) (es.map (·.1)) with
   | none=>rw [q] at e;cases e
   | some owner=>
    rw [q] at e
    simp only [Option.bind_eq_bind,Option.bind_some,Option.pure_def,Option.some.injEq,Prod.mk.injEq] at e
    obtain⟨rfl,_⟩:=e
    exact⟨fun _=>⟨rfl,uR _ _⟩,rfl⟩
  ·exact⟨fun hp=>absurd hp (by simp [SetTable.standIn]),rfl⟩
 ·exact⟨fun hp=>absurd hp (by simp [SetTable.standIn]),rfl⟩
theorem lE {α:Type} {l:List α} {i:Nat} (h:i < l.length):List.Perm (l[i] :: l.eraseIdx i) l:=by
 rw [List.eraseIdx_eq_take_drop_succ]
 have e:l=l.take i++l[i] :: l.drop (i+1):=by rw [List.getElem_cons_drop,List.take_append_drop]
 exact (List.perm_middle.symm).trans (.of_eq e.symm)
theorem jJ {α:Type} (next:Nat->Nat):∀ (fuel k:Nat) (left:List α) (out:Array α),left.length=fuel->List.Perm (pickOrder.go next fuel k left out).toList (out.toList++left)
 | 0,k,left,out,h=>by
  unfold pickOrder.go
  rw [List.length_eq_zero_iff.mp h,List.append_nil]
 | fuel+1,k,left,out,h=>by
  unfold pickOrder.go
  have hm:next k % left.length < left.length:=Nat.mod_lt _ (by omega)
  rw [List.getElem?_eq_getElem hm]
  dsimp only
  refine (jJ next fuel (k+1) (left.eraseIdx (next k % left.length)) (out.push left[next k % left.length]) (by rw [List.length_eraseIdx_of_lt hm];omega)).trans ?_
  rw [Array.toList_push,List.append_assoc]
  refine List.Perm.append_left _ ?_
  exact lE hm
theorem uZ {α:Type} (next:Nat->Nat) (xs:Array α):List.Perm (pickOrder next xs).toList xs.toList:=by
 unfold pickOrder
 have:=jJ next xs.size 0 xs.toList #[] (by simp)
 simpa using this
section
variable {prog:Program} {w:World} {A:Around} {E:cJ} {s:Shared}
def n0:Value->Int
 | .int n _=>n
 | _=>0
def cE (w:World) (h:Heap) (a:Addr) (ks:List Int):Prop:=∃ o es ep t,h.get? a=some o/\o.ExactSet/\o.data=.set es ep t/\(∀ e∈es.toList,∃ n u,e=(hashInt n,Value.int n u))∧
 (es.toList.map fun e=>n0 e.2).Perm ks/\t.fits es.size=true/\sS t/\t.led=!w.params.followText "set-order"
theorem cE.at {h h':Heap} {a:Addr} {ks:List Int} (I:cE w h a ks) (k:∀ o,h.get? a=some o->h'.get? a=some o):cE w h' a ks:=by
 obtain⟨o,es,ep,t,ho,r⟩:=I
 exact⟨o,es,ep,t,k o ho,r⟩
theorem xZ {es:List (Int×Value)} (h:∀ e∈es,∃ n u,e=(hashInt n,Value.int n u)):ElemsOf (intKind prog w) es:=by
 intro e he
 obtain⟨n,u,rfl⟩:=h e he
 exact⟨⟨n,intKind_is _ _ _ _,rfl⟩,rfl⟩
theorem xI {k n:Int} {u:Tok}:(intKind prog w).is k (.int n u)=decide (k=n):=by
 show Value.isInt k (.int n u)=_
 unfold Value.isInt
 by_cases e:k=n
 ·subst e;simp
 ·rw [decide_eq_false e]
  simpa using fun z:n=k=>e z.symm
theorem qF {a:Addr} {o:Obj} {es es':Array (Int×Value)} {ep:Nat} {t t':SetTable} {ks:List Int} (ho:s.heap.get? a=some o) (hx:o.ExactSet) (hd:o.data=.set es ep t)
  (h1:∀ e∈es'.toList,∃ n u,e=(hashInt n,Value.int n u)) (h2:(es'.toList.map fun e=>n0 e.2).Perm ks) (h3:t'.fits es'.size=true) (h4:sS t') (h5:t'.led=!w.params.followText "set-order") :
  (s.heap.update a (Obj.putSet es' t')).get? a=some { o with data:=.set es' (ep+1) t' }/\cE w (s.heap.update a (Obj.putSet es' t')) a ks:=by
 have hg:(s.heap.update a (Obj.putSet es' t')).get? a=some { o with data:=.set es' (ep+1) t' }:=by
  have:=Heap.get?_update_self (Obj.putSet es' t') ho (by rw [putSet_of es' t' hd];rfl)
  rw [putSet_of es' t' hd] at this;exact this
 exact⟨hg,_,es',ep+1,t',hg,hx,rfl,h1,h2,h3,h4,h5⟩
theorem CZ {a:Addr} {ks:List Int} {k:Int} {u:Tok} {Q:Bool->Shared->Prop} (I:cE w s.heap a ks) (hb:ks.length+1 < scanBound)
  (h:∀ b h',Heap.SameBut a s.heap h'->cE w h' a (step_dedup ks k)->Q b { s with heap:=h' }):wpAny (model prog w) A (setAddHashed a (.int k u) (hashInt k)) Q E s:=by
 obtain⟨o,es,ep,t,ho,hx,hd,hs,hp,hf,T,hl⟩:=I
 have hn:es.size=ks.length:=by rw [← hp.length_eq,List.length_map,Array.length_toList]
 have hel:ElemsOf (intKind prog w) es.toList:=xZ hs
 have hb0:es.size < scanBound:=by omega
 unfold setAddHashed setAddHashedIn
 refine wpAny_holding (wpAny_bind (wpAny_setState_of ho hd hf ?_))
 dsimp only
 rw [byScan_of (knd:=intKind prog w) (x:=.int k u) rfl hb0 hel]
 simp only [↓reduceIte]
 unfold setAddByScan
 refine wpAny_bind (wpAny_bind (wpAny_rule (wpAny_bind (wpAny_setScan_of (knd:=intKind prog w) (k:=k) (intKind_is _ _ _ _) ho hd hf hel ?_))))
 cases hr:List.findIdx? (fun e=>(intKind prog w).is k e.2) es.toList with
 | some j=>
  dsimp only
  obtain⟨hj,hpj,_⟩:=List.findIdx?_eq_some_iff_getElem.mp hr
  obtain⟨n,v,e⟩:=hs _ (List.getElem_mem hj)
  have hk:k∈ks:=by
   refine hp.mem_iff.mp (List.mem_map.mpr ⟨_,List.getElem_mem hj,?_⟩)
   rw [e] at hpj ⊢
   rw [xI] at hpj
   exact (of_decide_eq_true hpj).symm
  have hd':step_dedup ks k=ks:=by unfold step_dedup;rw [if_pos (List.any_eq_true.mpr ⟨k,hk,by simp⟩)]
  refine wpAny_pure (wpAny_pure ?_)
  have:=h false s.heap (Heap.SameBut.refl a s.heap) (by rw [hd'];exact⟨o,es,ep,t,ho,hx,hd,hs,hp,hf,T,hl⟩)
  have e:s={ s with heap:=s.heap }:=by cases s;rfl
  rw [e];exact this
 | none=>
  dsimp only
  have hk:k∉ks:=fun z=>by
   obtain⟨e,he,q⟩:=List.mem_map.mp (hp.mem_iff.mpr z)
   have:=List.findIdx?_eq_none_iff.mp hr e he
   obtain⟨n,v,rfl⟩:=hs e he
   rw [xI] at this
   exact (of_decide_eq_false this) q.symm
  have hd':step_dedup ks k=ks++[k]:=by
   unfold step_dedup
   rw [if_neg (fun z=>by obtain⟨x,m,q⟩:=List.any_eq_true.mp z;exact hk (by rw [← show x=k from by simpa using q];exact m))]
  rw [hd'] at h
  have hperm:=layNew_perm t es (hashInt k) (.int k u)
  have hfits:=layNew_fits t es (hashInt k) (.int k u)
  have htidy:=pT T es (hashInt k) (.int k u)
  show wpAny _ _ (match layNew t es (hashInt k) (.int k u) with | (es,t,wasDummy,gave)=>_) _ _ _
  generalize layNew t es (hashInt k) (.int k u)=L at hperm hfits htidy ⊢
  obtain⟨es1,t1,dm,gave⟩:=L
  dsimp only at hperm hfits htidy ⊢
  rw [Array.toList_push] at hperm
  have s1:∀ e∈es1.toList,∃ n u,e=(hashInt n,Value.int n u):=fun e he=>by
   rcases List.mem_append.mp (hperm.mem_iff.mp he) with q | q
   ·exact hs e q
   ·exact⟨k,u,List.mem_singleton.mp q⟩
  have p1:(es1.toList.map fun e=>n0 e.2).Perm (ks++[k]):=by
   refine (hperm.map _).trans ?_
   rw [List.map_append]
   exact hp.append (.refl _)
  have n1:es1.size=ks.length+1:=by rw [← Array.length_toList,hperm.length_eq,List.length_append,Array.length_toList,hn];rfl
  have z1:es1.size≤sizeLine:=fits_of_scanBound (by omega)
  have gw:∀ (b:Bool) {s₁:Shared} {Q':Unit->Shared->Prop},Q' () s₁->wpAny (model prog w) A (match b with | true=>rule "set.scan.the-table-gave-way" | false=>pure ()) Q' E s₁:=
   fun b s₁ Q' hq=>by cases b <;> first | exact wpAny_pure hq | exact wpAny_rule hq
  have tail:∀ (t2:SetTable) (R:Option Bool->Shared->Prop),t2.fits es1.size=true->sS t2->t2.led=t.led->(∀ h',Heap.SameBut a s.heap h'->cE w h' a (ks++[k])->R (some true) { s with heap:=h' })→
    wpAny (model prog w) A (do
     storeSet a es1 t2
     if (!dm && t2.tooFull)=true then do
       (match (relayAll t2 es1 (SetTable.grown es1.size)).2.2 with | true=>rule "set.scan.the-table-gave-way" | false=>pure ())
       storeSet a (relayAll t2 es1 (SetTable.grown es1.size)).1 (relayAll t2 es1 (SetTable.grown es1.size)).2.1
       pure (some true)
      else pure (some true)) R E s:=by
   intro t2 R f2 T2 l2 hR
   refine wpAny_bind (wpAny_storeSet_of ho hd ?_ z1)
   obtain⟨g1,I1⟩:=qF (w:=w) (ks:=ks++[k]) ho hx hd s1 p1 f2 T2 (l2.trans hl)
   have b1:=Heap.SameBut.update s.heap a (Obj.putSet es1 t2)
   split
   ·have hp2:=relayAll_perm t2 es1 (SetTable.grown es1.size)
    have hf2:=relayAll_fits t2 es1 (SetTable.grown es1.size)
    have ht2:=lN (t:=t2) es1 (SetTable.grown es1.size)
    generalize relayAll t2 es1 (SetTable.grown es1.size)=Rl at hp2 hf2 ht2 ⊢
    obtain⟨es2,t3,gv⟩:=Rl
    dsimp only at hp2 hf2 ht2 ⊢
    have n2:es2.size=es1.size:=by rw [← Array.length_toList,hp2.length_eq,Array.length_toList]
    refine wpAny_bind (gw _ (wpAny_bind (wpAny_storeSet_of g1 rfl (wpAny_pure (hR _ (b1.trans (Heap.SameBut.update _ a _)) ?_)) (by rw [n2];exact z1))))
    exact (qF (s:={ s with heap:=s.heap.update a (Obj.putSet es1 t2) }) (w:=w) (ks:=ks++[k]) g1 hx rfl (fun e he=>s1 e (hp2.mem_iff.mp he)) ((hp2.map _).trans p1) hf2 ht2.1 (ht2.2.trans (l2.trans hl))).2
   ·exact wpAny_pure (hR _ b1 I1)
  refine wpAny_bind (gw _ ?_)
  split
  ·refine wpAny_bind ?_
   rw [hashByValue_scannable 8 (x:=.int k u) rfl]
   refine wpAny_pure ?_
   exact tail _ _ hfits htidy.1 htidy.2 fun h' b i=>wpAny_pure (h true h' b i)
  ·refine wpAny_bind (wpAny_pure ?_)
   simp only [↓reduceIte]
   exact tail _ _ hfits htidy.1 htidy.2 fun h' b i=>wpAny_pure (h true h' b i)
end
section
variable {prog:Program} {w:World} {A:Around} {E:cJ} {s:Shared}
def bU (w:World):Obj:={ cls:=.type "set", dict:=none,data:=.set #[] 0 (.fresh 0 0 (!w.params.followText "set-order")) }
theorem qG {h:Heap} {a:Addr} (e:h.get? a=some (bU w)):cE w h a []:=
 ⟨_,#[],0,_,e,⟨rfl,rfl,rfl⟩,rfl,fun e h=>by simp at h,.refl _,rfl,rn _ _ _,rfl⟩
theorem CY (v:Value) {Q₁:cJ} (h:Q₁ (.ref s.heap.objs.size) { s with heap:=s.heap.push (bU w) }) :
  codeAny (model prog w) A (.call (.builtin "set.__new__") ⟨[.type "set", v],[]⟩) (wants Q₁ E) s:=by
 refine codeAny_of_tree ?_
 show wpAny _ A.in1 (do checkBuiltinCall "set.__new__" ⟨[.type "set", v],[]⟩;again (.builtin "set.__new__" ⟨[.type "set", v],[]⟩)) _ _ s
 refine wpAny_bind (wpAny_of_eq (PySem.F.newCall_set_1 v) (wpAny_pure ⟨plainId_quiet PySem.F.plain_set_new _,codeAny_builtin PySem.F.entry_set_new ?_⟩))
 rw [Around.under_plainId PySem.F.plain_set_new _]
 unfold Builtin.«set.__new__» Builtin.Frozenset.newClass
 have hsub:=sub_set_self
 obtain⟨hp,g,d,tk,os⟩:=s
 dsimp only
 wp_walk
 refine wpAny_askSetting (wpAny_pure ?_)
 dsimp only
 simp only [newObj]
 exact wpAny_bind (wpAny_alloc (wpAny_pure (wpAny_pure h)))
variable {R:Result->Shared->Prop} {I:Addr} {fp wr:List Addr} {G:Array GenState->Array GenState->Prop} {n:Nat} {P:Nat->Value->Prop} {St:Nat->Shared->Prop}
theorem t0 (W:WalksS prog w A.in1 I fp wr G n P St) (S:Addr) (hSf:S∉fp) (val:Nat->Int) (hval:∀ i v,P i v->∃ t,v=.int (val i) t) (hb:n+1 < scanBound) :
  ∀ (k i:Nat) (s:Shared),n - i=k->i≤n->St i s->cE w s.heap S (firstMet val i)→
   (∀ s',Moved (S :: wr) G s s'->cE w s'.heap S (firstMet val n)->R (.ok (.ret .none)) s')->codeAny (model prog w) A (.builtin "set.update.loop" ⟨[.ref S,.ref I],[]⟩) R s:=by
 have hSw:S∉wr:=fun h=>hSf (W.sub _ h)
 have hsub:∀ b∈wr,b∈S :: wr:=fun b hb=>List.mem_cons_of_mem _ hb
 intro k
 induction k with
 | zero=>
  intro i s hk hi hst hS hR
  obtain rfl:i=n:=by omega
  refine codeAny_builtin PyProof.Rows.F.entry_set_update_loop ?_
  rw [Around.under_plainId PyProof.Rows.F.plain_set_update_loop _]
  show wpAny _ A.in1 (pyNext (.ref I) >>= _) _ _ s
  refine wpAny_bind (W.done s _ _ hst fun s' hm=>?_)
  exact wpAny_pure (hR s' (hm.mono hsub) (hS.at fun o e=>hm.heap S _ hSw e))
 | succ k ih=>
  intro i s hk hi hst hS hR
  refine codeAny_builtin PyProof.Rows.F.entry_set_update_loop ?_
  rw [Around.under_plainId PyProof.Rows.F.plain_set_update_loop _]
  show wpAny _ A.in1 (pyNext (.ref I) >>= _) _ _ s
  refine wpAny_bind (W.item i s _ _ (by omega) hst fun v s' hP hst' hm=>?_)
  obtain⟨t,rfl⟩:=hval i v hP
  show wpAny _ A.in1 (holding [Value.int (val i) t] (setAdd S (.int (val i) t)) >>= _) _ _ s'
  refine wpAny_bind (wpAny_holding ?_)
  unfold setAdd
  refine wpAny_holding (wpAny_bind ((intKind prog w).pyHash (k:=val i) (intKind_is _ _ _ _) ?_))
  refine CZ (s:={ s' with toks:=s'.toks+1 }) (hS.at fun o e=>hm.heap S _ hSw e) (by have:=firstMet_length_le val i;omega) fun b h' hsb hS2=>?_
  rw [← firstMet_succ] at hS2
  refine wpAny_pure ⟨plainId_quiet PyProof.Rows.F.plain_set_update_loop _,ih (i+1) _ (by omega) (by omega) (W.frame _ s' _ _ hst' (Nat.le_succ _) fun b hb o e=>?_) hS2 fun s'' hm'' hS''=>?_⟩
  ·rw [hsb.2 b (fun h:b=S=>hSf (by rw [← h];exact hb))];exact e
  ·refine hR s'' (Moved.trans W.gtrans ((hm.mono hsub).then_heap (Nat.le_succ _) fun b o hb e=>?_) hm'') hS''
   rw [hsb.2 b (fun h:b=S=>hb (by rw [h];exact List.mem_cons_self))];exact e
end
section
variable {prog:Program} {w:World} {A:Around} {E:cJ} {s:Shared}
set_option maxRecDepth 100000 in
set_option maxHeartbeats 3200000 in
theorem zT {T:String} {l:Addr} {ol:Obj} {items:Array Value} {nl:Nat} {ns:List Int} {Q:cJ} (hT0:T = "list" ∨ T = "tuple")
  (hh:A.handled=none) (hol:s.heap.get? l=some ol) (hcl:ol.cls=.type T) (hdl:ol.data=.seq items nl) (hi:IntsAre items.toList ns) (hb:items.size+1 < scanBound)
  (h:∀ (h':Heap) (tk:Nat),cE w h' s.heap.objs.size (b6 ns)->(∀ b o,b < s.heap.objs.size->s.heap.get? b=some o->h'.get? b=some o)->Q (.ref s.heap.objs.size) { s with heap:=h',toks:=tk }) :
  wpAny (model prog w) A (call (.type "set") [.ref l]) Q E s:=by
 have hlen:items.size=ns.length:=by rw [← Array.length_toList];exact IntsAre.length hi
 obtain⟨c,tl,hmro⟩:=PySem.F.called_set.mro
 have hmade:=PySem.F.called_set.made
 have hsub:=PySem.F.called_set.sub
 refine wpAny_call (codeAny_of_tree ?_)
 show wpAny _ _ (callAny (.type "set") _) _ _ _
 refine wpAny_pure ⟨Code.quiet_builtin _ (by decide +kernel),codeAny_builtin PySem.F.entry_type_call ?_⟩
 rw [Around.under_plain (weight_type_call_type "set" [.ref l] []) rfl]
 have h1:=PySem.F.called_set.notType
 have h2:=PySem.F.called_set.canCreate
 have hct:=PySem.F.typeCall_set_1 (.ref l)
 repeat (any_goals (first | assumption | wp_step))
 refine codeAny_mono (CY (.ref l) (E:=E) (Q₁:=fun obj s₁=>obj=.ref s.heap.objs.size/\s₁={ s with heap:=s.heap.push (bU w) }) ⟨rfl,rfl⟩) fun r s₁ hr=>?_
 cases r with
 | error e=>exact hr
 | ok fl=>
  cases fl with
  | ret obj=>
   obtain⟨rfl,rfl⟩:=hr
   have hS:(s.heap.push (bU w)).get? s.heap.objs.size=some (bU w):=Heap.get?_push_size _ rfl
   have hT:Shared.TypeIs { s with heap:=s.heap.push (bU w) } (.ref s.heap.objs.size) "set" := ⟨_,hS,rfl⟩
   have hli:=PySem.F.called_set.init.lookup
   have hbi:=PySem.F.called_set.init.bind (.ref s.heap.objs.size)
   repeat (any_goals (first | assumption | wp_step))
   refine codeAny_mono (codeAny_call_builtin (R:=wants (fun r s₂=>r=.none/\∃ h' tk,s₂={ s with heap:=h',toks:=tk }/\cE w h' s.heap.objs.size (b6 ns)∧
     (∀ b o,b < s.heap.objs.size->s.heap.get? b=some o->h'.get? b=some o)) E) PySem.F.called_set.init.plain PySem.F.entry_set_init (check_set_init_1 hT ?_)) fun r₂ s₂ hr₂=>?_
   ·have hlS:l < s.heap.objs.size:=Heap.lt_size hol
    have hh3:A.in1.in1.in1.handled=none:=by simp [hh]
    have hol':(s.heap.push (bU w)).get? l=some ol:=Heap.get?_push_of_some _ hol
    have sz:(s.heap.push (bU w)).objs.size=s.heap.objs.size+1:=Heap.size_push ..
    have hneI:l≠(s.heap.push (bU w)).objs.size:=Nat.ne_of_lt (by rw [sz];exact Nat.lt_succ_of_lt hlS)
    have hSf:s.heap.objs.size∉[(s.heap.push (bU w)).objs.size,l]:=by
     simp only [List.mem_cons,List.not_mem_nil,or_false,not_or]
     exact⟨Nat.ne_of_lt (by rw [sz];exact Nat.lt_succ_self _),Nat.ne_of_gt hlS⟩
    have hval:∀ (i:Nat) (v:Value),items[i]?=some v->∃ t,v=.int ((fun i=>ns.getD i 0) i) t:=fun i v hv=>IntsAre.int_at hi i v (by rw [Array.getElem?_toList];exact hv)
    have fin:∀ (it:Obj) (s':Shared),Moved [s.heap.objs.size,(s.heap.push (bU w)).objs.size] (fun a b=>b=a) { s with heap:=(s.heap.push (bU w)).push it } s'→
      cE w s'.heap s.heap.objs.size (firstMet (fun i=>ns.getD i 0) items.size)→
      ∃ h' tk,s'={ s with heap:=h',toks:=tk }/\cE w h' s.heap.objs.size (b6 ns)/\(∀ b o,b < s.heap.objs.size->s.heap.get? b=some o->h'.get? b=some o):=by
     intro it s' hm hS'
     rw [hlen,qM] at hS'
     obtain⟨h',g',d',tk',os'⟩:=s'
     obtain rfl:g'=s.gens:=hm.gens
     obtain rfl:d'=s.drawn:=hm.drawn
     obtain rfl:os'=s.os:=hm.os
     refine⟨h',tk',rfl,hS',fun b o hb e=>hm.heap b o ?_ (Heap.get?_push_of_some _ (Heap.get?_push_of_some _ e))⟩
     simp only [List.mem_cons,List.not_mem_nil,or_false,not_or]
     exact⟨Nat.ne_of_lt hb,Nat.ne_of_lt (by rw [sz];exact Nat.lt_succ_of_lt hb)⟩
    obtain⟨ocls,odict,odata,oslots⟩:=ol
    simp only at hcl hdl
    subst hcl;subst hdl
    have n1:=PySem.F.sub_list_set
    have n2:=PySem.F.sub_list_frozenset
    have n3:=PySem.F.sub_tuple_set
    have n4:=PySem.F.sub_tuple_frozenset
    have n5:(Value.type "list" == Value.type "dict")=false:=by decide
    have n6:(Value.type "tuple" == Value.type "dict")=false:=by decide
    unfold Builtin.«set.__init__» noKeywords Builtin.Frozenset.updateFrom
    generalize hPI:pyIter=PI
    rcases hT0 with rfl | rfl
    ·have hl1:(s.heap.push (bU w)).IsList l items:=⟨_,hol',rfl,nl,rfl⟩
     wp_walk
     subst hPI
     refine wpAny_pyIter_list hl1 (wpAny_bind (wpAny_runValue ?_))
     refine t0 ((Walks.list hh3 _ l hneI items).toS) s.heap.objs.size hSf (fun i=>ns.getD i 0) hval hb (items.size - 0) 0 _ (by omega) (Nat.zero_le _)
      ⟨⟨_,Heap.get?_push_size _ rfl,rfl,rfl⟩,(hl1.push _)⟩ (qG (Heap.get?_push_of_some _ hS)) fun s' hm hS'=>?_
     obtain⟨h',tk,rfl,c1,c2⟩:=fin _ s' hm hS'
     exact wpAny_pure (wpAny_pure ⟨rfl,h',tk,rfl,c1,c2⟩)
    ·have hl1:(s.heap.push (bU w)).IsTuple l items:=⟨_,hol',rfl,nl,rfl⟩
     wp_walk
     subst hPI
     refine wpAny_pyIter_tuple hl1 (wpAny_bind (wpAny_runValue ?_))
     refine t0 ((Walks.tuple hh3 _ l hneI items).toS) s.heap.objs.size hSf (fun i=>ns.getD i 0) hval hb (items.size - 0) 0 _ (by omega) (Nat.zero_le _)
      ⟨⟨_,Heap.get?_push_size _ rfl,rfl,rfl⟩,(hl1.push _)⟩ (qG (Heap.get?_push_of_some _ hS)) fun s' hm hS'=>?_
     obtain⟨h',tk,rfl,c1,c2⟩:=fin _ s' hm hS'
     exact wpAny_pure (wpAny_pure ⟨rfl,h',tk,rfl,c1,c2⟩)
   ·cases r₂ with
    | error e=>exact hr₂
    | ok fl₂=>
     cases fl₂ with
     | ret r=>
      obtain⟨rfl,h',tk,rfl,hS',hk'⟩:=hr₂
      repeat (any_goals (first | assumption | wp_step))
      exact h _ _ hS' hk'
     | _=>exact hr₂.elim
  | _=>exact hr.elim
end
namespace FS
theorem owner:Manifest.owners.lookup (String.ofList ['r','o','t','a','r','e','t','i','_','t','e','s'].reverse)=some Manifest.sig_set_iterator:=by kernel_rfl
theorem slot_next:Slot "set_iterator" "__next__" "set_iterator.__next__" :=
 .of (owner := "set_iterator") (n := "__next__") (by rw [typeLookup_type,builtinLookup_eq_fast];kernel_rfl) (by decide +kernel) (by decide +kernel) (by decide +kernel)
  (by first | exact .inl (by decide +kernel) | exact .inr (by decide +kernel)) (by rw [isSubtype_type];kernel_rfl)
theorem entry_next:entryFor table "set_iterator.__next__" = some Builtin.«set_iterator.__next__»:=entryFor_of_tree (by kernel_rfl)
theorem args_next (a:Value):argsOk "set_iterator.__next__" ⟨[a],[]⟩:=by
 unfold argsOk;rw [signature?_of (id := "set_iterator.__next__") (n:=['_','_','t','x','e','n','_','_']) (o:=['r','o','t','a','r','e','t','i','_','t','e','s']) (by kernel_rfl) owner];kernel_rfl
theorem entry_iter:entryFor table "set.__iter__" = some Builtin.«frozenset.__iter__»:=entryFor_alias (id' := "frozenset.__iter__") (by kernel_rfl) rfl (by decide +kernel) (by kernel_rfl)
theorem slot_iter2:Slot "set_iterator" "__iter__" "set_iterator.__iter__" :=
 .of (owner := "set_iterator") (n := "__iter__") (by rw [typeLookup_type,builtinLookup_eq_fast];kernel_rfl) (by decide +kernel) (by decide +kernel) (by decide +kernel)
  (by first | exact .inl (by decide +kernel) | exact .inr (by decide +kernel)) (by rw [isSubtype_type];kernel_rfl)
theorem entry_iter2:entryFor table "set_iterator.__iter__" = some Builtin.«dict_keyiterator.__iter__»:=entryFor_alias (id' := "dict_keyiterator.__iter__") (by kernel_rfl) rfl (by decide +kernel) (by kernel_rfl)
theorem args_iter2 (a:Value):argsOk "set_iterator.__iter__" ⟨[a],[]⟩:=by
 unfold argsOk;rw [signature?_of (id := "set_iterator.__iter__") (n:=['_','_','r','e','t','i','_','_']) (o:=['r','o','t','a','r','e','t','i','_','t','e','s']) (by kernel_rfl) owner];kernel_rfl
end FS
section
variable {prog:Program} {w:World} {A:Around} {E:cJ} {s:Shared}
def iY (first:Value) (i:Nat) (a:Addr) (n ep:Nat):Obj:={ cls:=.type "set_iterator", data:=.fields #[first,.int i 0,.ref a,.int n 0,.int ep 0] }
theorem yK {I a:Addr} {o:Obj} {es:Array (Int×Value)} {ep i slot next:Nat} {t:SetTable} {x:Value} {Q:Option Value->Shared->Prop} (hI:s.heap.get? I=some (iY (.int slot 0) i a es.size ep))
  (ho:s.heap.get? a=some o) (hd:o.data=.set es ep t) (hf:t.fits es.size=true) (hx:∀ (A:Around) (E:cJ) (Q:Option (Value×Nat)->Shared->Prop),Q (some (x,next)) s->wpAny (model prog w) A (setNext a slot i ep) Q E s)
  (hQ:∀ h',h'.get? I=some (iY (.int next 0) (i+1) a es.size ep)->Heap.SameBut I s.heap h'->Q (some x) { s with heap:=h' }):wpAny (model prog w) A (pyNext (.ref I)) Q E s:=by
 have hT:s.TypeIs (.ref I) "set_iterator" := ⟨_,hI,rfl⟩
 unfold pyNext
 refine wpAny_bind (wpAny_attempt (wpAny_callSpecial?_slot (name:=Str.ofString "__next__") hT FS.slot_next (wpAny_call_entry FS.slot_next hT FS.entry_next ?_ (FS.args_next _))))
 unfold Builtin.«set_iterator.__next__» slotArgs
 simp only [List.isEmpty_nil,Bool.not_true,Bool.false_eq_true,↓reduceIte,bind_assoc,List.length_nil,bne_self_eq_false]
 refine wpAny_bind (wpAny_pure ?_)
 refine wpAny_bind (wpAny_fieldsOf hI rfl ?_)
 dsimp only
 refine wpAny_bind (wpAny_setEntries_of ho hd hf ?_)
 rw [if_neg (by simp)]
 refine wpAny_bind (hx _ _ _ ?_)
 dsimp only
 refine wpAny_bind (wpAny_setField hI rfl (by simp) ?_)
 have e1:(s.heap.update I (Obj.mapFields (·.setIfInBounds 0 (rawInt next)))).get? I=some (iY (.int next 0) i a es.size ep):=Heap.get?_update_self _ hI rfl
 refine wpAny_bind (wpAny_setField e1 rfl (by simp) (wpAny_pure ⟨x,rfl,wpAny_pure (hQ _ (Heap.get?_update_self _ e1 rfl) ((Heap.SameBut.update ..).trans (Heap.SameBut.update ..)))⟩))
theorem Bc {I a:Addr} {o:Obj} {es:Array (Int×Value)} {ep i slot:Nat} {t:SetTable} {Q:Option Value->Shared->Prop} (hh:A.handled=none) (hI:s.heap.get? I=some (iY (.int slot 0) i a es.size ep))
  (ho:s.heap.get? a=some o) (hd:o.data=.set es ep t) (hf:t.fits es.size=true) (hx:∀ (A:Around) (E:cJ) (Q:Option (Value×Nat)->Shared->Prop),Q none s->wpAny (model prog w) A (setNext a slot i ep) Q E s)
  (hQ:∀ h',Heap.ExtBut I s.heap h'->Q none { s with heap:=h' }):wpAny (model prog w) A (pyNext (.ref I)) Q E s:=by
 have hT:s.TypeIs (.ref I) "set_iterator" := ⟨_,hI,rfl⟩
 unfold pyNext
 refine wpAny_bind (wpAny_attempt (wpAny_callSpecial?_slot (name:=Str.ofString "__next__") hT FS.slot_next (wpAny_call_entry FS.slot_next hT FS.entry_next ?_ (FS.args_next _))))
 unfold Builtin.«set_iterator.__next__» slotArgs
 simp only [List.isEmpty_nil,Bool.not_true,Bool.false_eq_true,↓reduceIte,bind_assoc,List.length_nil,bne_self_eq_false]
 refine wpAny_bind (wpAny_pure ?_)
 refine wpAny_bind (wpAny_fieldsOf hI rfl ?_)
 dsimp only
 refine wpAny_bind (wpAny_setEntries_of ho hd hf ?_)
 rw [if_neg (by simp)]
 refine wpAny_bind (hx _ _ _ ?_)
 try dsimp only
 refine wpAny_bind (wpAny_setField hI rfl (by simp) ?_)
 refine wpAny_bind ?_
 simp only [newExc,newTuple]
 refine wpAny_bind (wpAny_newObj_type ?_ (by size_fits))
 refine wpAny_bind (m:=firstArgMember _ _) (wpAny_of_eq (a:=Value.none) (by first | rfl | (simp only [firstArgMember];rfl)) ?_)
 refine wpAny_newObj_type ?_ (by size_fits)
 simp only [raiseNew]
 refine wpAny_bind (wpAny_handled ?_)
 rw [show A.in1.handled=none from hh]
 refine wpAny_bind (wpAny_pure (wpAny_throw ?_))
 refine wpAny_bind (wpAny_isInstance (T := "StopIteration") (b:=true) ⟨_,Heap.get?_push_size _ rfl,rfl⟩ isSubtype_stop ?_)
 exact wpAny_pure (hQ _ (((Heap.SameBut.update ..).extBut.push _).push _))
theorem yO {I a p:Addr} {o op:Obj} {es:Array (Int×Value)} {ps:Array Value} {ep i np pl:Nat} {u:Tok} {t:SetTable} {hs:Int} {x:Value} {Q:Option Value->Shared->Prop} (hI:s.heap.get? I=some (iY (.ref p) i a es.size ep))
  (ho:s.heap.get? a=some o) (hd:o.data=.set es ep t) (hf:t.fits es.size=true) (hp:s.heap.get? p=some op) (hpd:op.data=.seq ps np) (hpi:ps[i]?=some (.int pl u)) (hx:es[pl]?=some (hs,x))
  (hQ:∀ h',h'.get? I=some (iY (.ref p) (i+1) a es.size ep)->Heap.SameBut I s.heap h'->Q (some x) { s with heap:=h' }):wpAny (model prog w) A (pyNext (.ref I)) Q E s:=by
 have hT:s.TypeIs (.ref I) "set_iterator" := ⟨_,hI,rfl⟩
 unfold pyNext
 refine wpAny_bind (wpAny_attempt (wpAny_callSpecial?_slot (name:=Str.ofString "__next__") hT FS.slot_next (wpAny_call_entry FS.slot_next hT FS.entry_next ?_ (FS.args_next _))))
 unfold Builtin.«set_iterator.__next__» slotArgs
 simp only [List.isEmpty_nil,Bool.not_true,Bool.false_eq_true,↓reduceIte,bind_assoc,List.length_nil,bne_self_eq_false]
 refine wpAny_bind (wpAny_pure ?_)
 refine wpAny_bind (wpAny_fieldsOf hI rfl ?_)
 dsimp only
 refine wpAny_bind (wpAny_setEntries_of ho hd hf ?_)
 rw [if_neg (by simp)]
 try dsimp only
 refine wpAny_bind (wpAny_seqItems hp hpd ?_)
 try dsimp only
 simp only [Int.toNat_natCast,hpi]
 unfold setNextDrawn
 refine wpAny_bind (wpAny_bind (wpAny_setState_of ho hd hf ?_))
 try dsimp only
 rw [if_neg (by simp)]
 simp only [hx]
 refine wpAny_pure (wpAny_bind (wpAny_setField hI rfl (by simp) (wpAny_pure ⟨x,rfl,wpAny_pure (hQ _ (Heap.get?_update_self _ hI rfl) (Heap.SameBut.update ..))⟩)))
theorem Bj {I a p:Addr} {o op:Obj} {es:Array (Int×Value)} {ps:Array Value} {ep i np:Nat} {t:SetTable} {Q:Option Value->Shared->Prop} (hh:A.handled=none) (hI:s.heap.get? I=some (iY (.ref p) i a es.size ep))
  (ho:s.heap.get? a=some o) (hd:o.data=.set es ep t) (hf:t.fits es.size=true) (hp:s.heap.get? p=some op) (hpd:op.data=.seq ps np) (hpi:ps[i]?=none)
  (hQ:∀ h',Heap.ExtBut I s.heap h'->Q none { s with heap:=h' }):wpAny (model prog w) A (pyNext (.ref I)) Q E s:=by
 have hT:s.TypeIs (.ref I) "set_iterator" := ⟨_,hI,rfl⟩
 unfold pyNext
 refine wpAny_bind (wpAny_attempt (wpAny_callSpecial?_slot (name:=Str.ofString "__next__") hT FS.slot_next (wpAny_call_entry FS.slot_next hT FS.entry_next ?_ (FS.args_next _))))
 unfold Builtin.«set_iterator.__next__» slotArgs
 simp only [List.isEmpty_nil,Bool.not_true,Bool.false_eq_true,↓reduceIte,bind_assoc,List.length_nil,bne_self_eq_false]
 refine wpAny_bind (wpAny_pure ?_)
 refine wpAny_bind (wpAny_fieldsOf hI rfl ?_)
 dsimp only
 refine wpAny_bind (wpAny_setEntries_of ho hd hf ?_)
 rw [if_neg (by simp)]
 try dsimp only
 refine wpAny_bind (wpAny_seqItems hp hpd ?_)
 try dsimp only
 simp only [Int.toNat_natCast,hpi]
 have e1:(s.heap.update I (Obj.mapFields (·.setIfInBounds 0 (rawInt 0)))).get? I=some (iY (.int 0 0) i a es.size ep):=Heap.get?_update_self _ hI rfl
 refine wpAny_bind (wpAny_setField hI rfl (by simp) (wpAny_bind (wpAny_setField e1 rfl (by simp) ?_)))
 refine wpAny_bind ?_
 simp only [newExc,newTuple]
 refine wpAny_bind (wpAny_newObj_type ?_ (by size_fits))
 refine wpAny_bind (m:=firstArgMember _ _) (wpAny_of_eq (a:=Value.none) (by first | rfl | (simp only [firstArgMember];rfl)) ?_)
 refine wpAny_newObj_type ?_ (by size_fits)
 simp only [raiseNew]
 refine wpAny_bind (wpAny_handled ?_)
 rw [show A.in1.handled=none from hh]
 refine wpAny_bind (wpAny_pure (wpAny_throw ?_))
 refine wpAny_bind (wpAny_isInstance (T := "StopIteration") (b:=true) ⟨_,Heap.get?_push_size _ rfl,rfl⟩ isSubtype_stop ?_)
 exact wpAny_pure (hQ _ ((((Heap.SameBut.update ..).trans (Heap.SameBut.update ..)).extBut.push _).push _))
end
end B
namespace B
open PySem PySem.Spec L2 PyProof.Rows
section
variable {prog:Program} {w:World} {A:Around} {E:cJ} {s:Shared}
theorem ib {Q:Bool->Shared->Prop} (h:Q (w.params.followText "set-order") s):wpAny (model prog w) A setsByText Q E s:=by
 unfold setsByText
 exact wpAny_bind (wpAny_askSetting (wpAny_pure h))
theorem zG {a:Addr} {o:Obj} {es:Array (Int×Value)} {ep i slot:Nat} {t:SetTable} {Q:Option (Value×Nat)->Shared->Prop} (hb:w.params.followText "set-order" = true) (ho:s.heap.get? a=some o) (hd:o.data=.set es ep t) (hf:t.fits es.size=true)
  (h:Q (((pickOrder (w.params.setOrder a ep) es)[i]?).map fun e=>(e.2,slot)) s):wpAny (model prog w) A (setNext a slot i ep) Q E s:=by
 unfold setNext
 refine wpAny_bind (wpAny_setState_of ho hd hf ?_)
 dsimp only
 refine wpAny_bind (ib ?_)
 rw [hb]
 simp only [↓reduceIte,bne_self_eq_false,Bool.false_eq_true]
 unfold setWalk
 refine wpAny_bind (wpAny_bind (wpAny_setState_of ho hd hf ?_))
 dsimp only
 refine wpAny_bind (ib ?_)
 rw [hb]
 simp only [↓reduceIte]
 exact wpAny_bind (wpAny_askSetting (wpAny_pure (wpAny_pure h)))
theorem CH {a:Addr} {o:Obj} {es:Array (Int×Value)} {ep i slot:Nat} {t:SetTable} {Q:Option (Value×Nat)->Shared->Prop} (hb:w.params.followText "set-order" = false) (hl:t.led=true) (hp:(!t.plain && decide (es.size > 1))=false)
  (ho:s.heap.get? a=some o) (hd:o.data=.set es ep t) (hf:t.fits es.size=true)
  (h:Q (match es[SetTable.below t.place slot]?,t.place[SetTable.below t.place slot]? with | some (_,x),some j=>some (x,j+1) | _,_=>none) s):wpAny (model prog w) A (setNext a slot i ep) Q E s:=by
 unfold setNext
 refine wpAny_bind (wpAny_setState_of ho hd hf ?_)
 dsimp only
 refine wpAny_bind (ib ?_)
 rw [hb]
 simp only [Bool.false_eq_true,↓reduceIte]
 show wpAny _ _ (if (!t.plain && decide (es.size > 1))=true then _ else _) _ _ _
 rw [hp]
 simp only [Bool.false_eq_true,↓reduceIte]
 show wpAny _ _ ((if (!t.led && !es.isEmpty)=true then _ else pure PUnit.unit) >>= _) _ _ _
 rw [hl]
 simp only [Bool.not_true,Bool.false_and,Bool.false_eq_true,↓reduceIte]
 refine wpAny_bind (wpAny_pure (wpAny_pure h))
theorem uw {src:Source} {n:Nat} {Q:Nat->Shared->Prop} (hn:n≠0) (h:∀ i d,i < n->Q i { s with drawn:=d }):wpAny (model prog w) A (choose src n) Q E s:=by
 intro Γ p hΓ
 unfold choose
 rw [Sem.wp_choose]
 exact⟨hn,by rw [Sem.wp_pure];exact h _ _ (Nat.mod_lt _ (Nat.pos_of_ne_zero hn))⟩
theorem lF {α:Type}:∀ (n:Nat) (xs:List α) (s:Shared) (Q:List α->Shared->Prop),xs.length=n->(∀ ys d,List.Perm ys xs->Q ys { s with drawn:=d })->wpAny (model prog w) A (drawOrder n xs) Q E s
 | 0,xs,s,Q,e,h=>by
  unfold drawOrder
  have:=h [] s.drawn (by rw [List.length_eq_zero_iff.mp e])
  exact wpAny_pure this
 | n+1,[],s,Q,e,h=>by simp at e
 | n+1,x :: xs,s,Q,e,h=>by
  unfold drawOrder
  refine wpAny_bind (uw (by simp) fun i d hi=>?_)
  rw [List.getElem?_eq_getElem hi]
  dsimp only
  refine wpAny_bind (lF n _ _ _ (by rw [List.length_eraseIdx_of_lt hi];omega) fun ys d' hy=>wpAny_pure ?_)
  exact h _ d' ((hy.cons _).trans (lE hi))
theorem md {I:Addr} {first:Value} {i:Nat} {a:Addr} {n ep:Nat} {Q:cJ} (hI:s.heap.get? I=some (iY first i a n ep)) (h:Q (.ref I) s):wpAny (model prog w) A (pyIter (.ref I)) Q E s:=by
 have hT:s.TypeIs (.ref I) "set_iterator" := ⟨_,hI,rfl⟩
 refine wpAny_pyIter_slot hT FS.slot_iter2 (wpAny_call_entry FS.slot_iter2 hT FS.entry_iter2 ?_ (FS.args_iter2 _))
 show wpAny _ _ (ret (.ref I)) _ _ s
 exact wpAny_pure ⟨_,rfl, "set_iterator", _,hT,FS.slot_next.lookup,h⟩
theorem pM (hh:A.handled=none) {I a:Addr} (hne:a≠I) {o:Obj} {es:Array (Int×Value)} {ep:Nat} {t:SetTable} (hd:o.data=.set es ep t) (hf:t.fits es.size=true) (items:Array Value) (slotf:Nat->Nat)
  (hnx:∀ (A:Around) (E:cJ) (s:Shared) (Q:Option (Value×Nat)->Shared->Prop) (i:Nat),s.heap.get? a=some o->i≤items.size->Q (items[i]?.map fun x=>(x,slotf (i+1))) s->wpAny (model prog w) A (setNext a (slotf i) i ep) Q E s) :
  WalksS prog w A I [I,a] [I] (fun a b=>b=a) items.size (fun i v=>items[i]?=some v) (fun i s=>s.heap.get? I=some (iY (.int (slotf i) 0) i a es.size ep)/\s.heap.get? a=some o) where
 sub:=fun b hb=>by simp at hb;simp [hb]
 grefl:=fun _=>rfl
 gtrans:=fun _ _ _ h1 h2=>h2.trans h1
 frame:=fun _ _ _ _ st _ hk=>⟨hk I (by simp) _ st.1,hk a (by simp) _ st.2⟩
 item:=fun i s Q E hi st hQ=>by
  refine yK (next:=slotf (i+1)) (x:=items[i]) st.1 st.2 hd hf (fun A E Q q=>hnx A E s Q i st.2 (Nat.le_of_lt hi) (by rw [Array.getElem?_eq_getElem hi];exact q)) fun h' hI hs=>?_
  refine hQ _ _ (by simp [hi]) ⟨hI,?_⟩ ⟨fun b o hb e=>hs.extBut b o (fun z=>hb (by simp [z])) e,rfl,rfl,rfl,Nat.le_refl _⟩
  exact hs.extBut a o hne st.2
 done:=fun s Q E st hQ=>by
  refine Bc hh st.1 st.2 hd hf (fun A E Q q=>hnx A E s Q items.size st.2 (Nat.le_refl _) (by rw [Array.getElem?_eq_none (Nat.le_refl _)];exact q)) fun h' hx=>?_
  exact hQ _ ⟨fun b o hb e=>hx b o (fun z=>hb (by simp [z])) e,rfl,rfl,rfl,Nat.le_refl _⟩
 self:=fun _ _ _ _ st hQ=>md st.1 hQ
end
section
variable {prog:Program} {w:World} {A:Around} {E:cJ} {s:Shared}
theorem rj (hh:A.handled=none) {I a p:Addr} (hne:a≠I) (hpe:p≠I) {o op:Obj} {es:Array (Int×Value)} {ep np:Nat} {t:SetTable} (hd:o.data=.set es ep t) (hf:t.fits es.size=true) {ps:Array Value} (hpd:op.data=.seq ps np) (items:Array Value)
  (hz:items.size=ps.size) (hps:∀ (i:Nat) (h:i < items.size),∃ (pl:Nat) (u:Tok) (hs:Int),ps[i]?=some (.int pl u)/\es[pl]?=some (hs,items[i])) :
  WalksS prog w A I [I,a,p] [I] (fun a b=>b=a) items.size (fun i v=>items[i]?=some v) (fun i s=>s.heap.get? I=some (iY (.ref p) i a es.size ep)/\s.heap.get? a=some o/\s.heap.get? p=some op) where
 sub:=fun b hb=>by simp at hb;simp [hb]
 grefl:=fun _=>rfl
 gtrans:=fun _ _ _ h1 h2=>h2.trans h1
 frame:=fun _ _ _ _ st _ hk=>⟨hk I (by simp) _ st.1,hk a (by simp) _ st.2.1,hk p (by simp) _ st.2.2⟩
 item:=fun i s Q E hi st hQ=>by
  obtain⟨pl,u,hs,e1,e2⟩:=hps i hi
  refine yO st.1 st.2.1 hd hf st.2.2 hpd e1 e2 fun h' hI hs=>?_
  exact hQ _ _ (by simp [hi]) ⟨hI,hs.extBut a o hne st.2.1,hs.extBut p op hpe st.2.2⟩ ⟨fun b o hb e=>hs.extBut b o (fun z=>hb (by simp [z])) e,rfl,rfl,rfl,Nat.le_refl _⟩
 done:=fun s Q E st hQ=>by
  refine Bj hh st.1 st.2.1 hd hf st.2.2 hpd (by rw [hz];exact Array.getElem?_eq_none (Nat.le_refl _)) fun h' hx=>?_
  exact hQ _ ⟨fun b o hb e=>hx b o (fun z=>hb (by simp [z])) e,rfl,rfl,rfl,Nat.le_refl _⟩
 self:=fun _ _ _ _ st hQ=>md st.1 hQ
def Dg (prog:Program) (w:World) (a:Addr) (ks:List Int) (s:Shared) (It:Addr) (s1:Shared):Prop:=
 ∃ (fp:List Addr) (items:Array Value) (St:Nat->Shared->Prop),(∀ A':Around,A'.handled=none->WalksS prog w A' It fp [It] (fun a b=>b=a) items.size (fun i v=>items[i]?=some v) St)/\St 0 s1/\It∈fp/\(∀ b∈fp,b < s1.heap.objs.size/\(b=a∨s.heap.objs.size≤b))∧
  s.heap.objs.size≤It/\∃ ms,IntsAre items.toList ms/\ms.Perm ks
theorem f6:∀ {es:List (Int×Value)},(∀ e∈es,∃ n u,e=(hashInt n,Value.int n u))->IntsAre (es.map (·.2)) (es.map fun e=>n0 e.2)
 | [],_=>.nil
 | e :: es,h=>by
  obtain⟨n,u,rfl⟩:=h e List.mem_cons_self
  exact .cons n u (f6 fun x hx=>h x (List.mem_cons_of_mem _ hx))
def v5 (t:SetTable):Nat->Nat
 | 0=>0
 | k+1=>t.place.getD k 0+1
theorem sM {t:SetTable} (R:jG t.place) {i:Nat} (h:i≤t.place.size):SetTable.below t.place (v5 t i)=i:=by
 cases i with
 | zero=>exact sL R
 | succ k=>
  have hk:k < t.place.size:=by omega
  show SetTable.below t.place (t.place.getD k 0+1)=k+1
  rw [show t.place.getD k 0=t.place[k] from by simp [Array.getD,hk]]
  exact sN R hk
theorem xG {a:Addr} {ks:List Int} {Q:cJ} (I:cE w s.heap a ks) (hb:ks.length≤1000)
  (h:∀ (It:Addr) (h':Heap) d,(∀ b o,s.heap.get? b=some o->h'.get? b=some o)->Dg prog w a ks s It { s with heap:=h',drawn:=d }->Q (.ref It) { s with heap:=h',drawn:=d }):wpAny (model prog w) A (pyIter (.ref a)) Q E s:=by
 obtain⟨o,es,ep,t,ho,hx,hd,hs,hp,hf,T,hl⟩:=I
 have hT:s.TypeIs (.ref a) "set" := ⟨o,ho,hx.1⟩
 have hlt:a < s.heap.objs.size:=Heap.lt_size ho
 refine wpAny_pyIter_slot hT PySem.F.slot_set_iter (wpAny_call_entry PySem.F.slot_set_iter hT FS.entry_iter ?_ (PySem.F.args_set_iter_1 _))
 unfold Builtin.«frozenset.__iter__» Builtin.Frozenset.slot0 slotArgs
 simp only [List.isEmpty_nil,Bool.not_true,Bool.false_eq_true,↓reduceIte,bind_assoc,List.length_nil,bne_self_eq_false]
 unfold Builtin.Frozenset.addrOf Builtin.Frozenset.sizeOf
 refine wpAny_bind (wpAny_pure ?_)
 try dsimp only
 refine wpAny_bind (wpAny_pure ?_)
 refine wpAny_bind (wpAny_bind (wpAny_setEntries_of ho hd hf (wpAny_pure ?_)))
 unfold setDrawn
 refine wpAny_bind (wpAny_bind (wpAny_setState_of ho hd hf ?_))
 dsimp only
 refine wpAny_bind (ib (wpAny_pure ?_))
 show wpAny _ _ (if (!w.params.followText "set-order" && (!t.plain && decide (es.size > 1)))=true then _ else _) _ _ _
 have hn:es.size=ks.length:=by rw [← hp.length_eq,List.length_map,Array.length_toList]
 by_cases c:(!w.params.followText "set-order" && (!t.plain && decide (es.size > 1)))=true
 ·rw [if_pos c]
  refine wpAny_bind (lF es.size (List.range es.size) _ _ (by simp) fun ys d hy=>?_)
  refine wpAny_bind (wpAny_newTuple ?_ ?_)
  ·have ho1:(s.heap.push { cls:=.type "tuple", data:=.seq (ys.map fun i:Nat=>rawInt i).toArray }).get? a=some o:=Heap.get?_push_of_some _ ho
   refine wpAny_bind (wpAny_setEpoch_of ho1 hd hf ?_)
   refine wpAny_bind (wpAny_newObj_type ?_ (by size_fits))
   have sz:(s.heap.push { cls:=.type "tuple", data:=.seq (ys.map fun i:Nat=>rawInt i).toArray }).objs.size=s.heap.objs.size+1:=Heap.size_push ..
   refine wpAny_pure ⟨_,rfl, "set_iterator", _,⟨_,Heap.get?_push_size _ rfl,rfl⟩,FS.slot_next.lookup,h _ _ d (fun b o e=>Heap.get?_push_of_some _ (Heap.get?_push_of_some _ e)) ?_⟩
   have hmem:∀ i∈ys,i < es.size:=fun i hi=>List.mem_range.mp (hy.mem_iff.mp hi)
   have yl:ys.length=es.size:=by rw [hy.length_eq,List.length_range]
   have hpe:s.heap.objs.size≠(s.heap.push { cls:=.type "tuple", data:=.seq (ys.map fun i:Nat=>rawInt i).toArray }).objs.size:=by rw [sz];exact Nat.ne_of_lt (Nat.lt_succ_self _)
   have hne:a≠(s.heap.push { cls:=.type "tuple", data:=.seq (ys.map fun i:Nat=>rawInt i).toArray }).objs.size:=by rw [sz];exact Nat.ne_of_lt (Nat.lt_succ_of_lt hlt)
   refine⟨_,(ys.map fun i=>(es.getD i (0,.none)).2).toArray,_,fun A' hh=>rj (p:=s.heap.objs.size) hh hne hpe hd hf (ps:=(ys.map fun i:Nat=>rawInt i).toArray) rfl _ (by simp) fun i hi=>?_,
    ⟨Heap.get?_push_size _ rfl,Heap.get?_push_of_some _ ho1,Heap.get?_push_of_some _ (Heap.get?_push_size _ rfl)⟩,by simp,fun b hb=>?_,by rw [sz];exact Nat.le_succ _,?_⟩
   ·have hi':i < ys.length:=by simpa using hi
    have hm:=hmem _ (List.getElem_mem hi')
    refine⟨ys[i],0,(es[ys[i]]).1,?_,?_⟩
    ·simp [hi',rawInt]
    ·rw [Array.getElem?_eq_getElem hm]
     simp [Array.getD,hm]
   ·rw [Heap.size_push,sz]
    simp only [List.mem_cons,List.not_mem_nil,or_false] at hb
    rcases hb with rfl | rfl | rfl
    ·rw [sz];exact⟨Nat.lt_succ_self _,.inr (Nat.le_succ _)⟩
    ·exact⟨Nat.lt_succ_of_lt (Nat.lt_succ_of_lt hlt),.inl rfl⟩
    ·exact⟨Nat.lt_succ_of_lt (Nat.lt_succ_self _),.inr (Nat.le_refl _)⟩
   ·refine⟨ys.map fun i=>n0 (es.getD i (0,.none)).2,?_,?_⟩
    ·have all:∀ {zs:List Nat},(∀ i∈zs,i < es.size)->IntsAre (zs.map fun i=>(es.getD i (0,.none)).2) (zs.map fun i=>n0 (es.getD i (0,.none)).2):=by
      intro zs hz
      have:=f6 (es:=zs.map fun i=>es.getD i (0,.none)) fun e he=>by
       obtain⟨i,hi,rfl⟩:=List.mem_map.mp he
       have hm:=hz i hi
       rw [show es.getD i (0,.none)=es[i] from by simp [Array.getD,hm]]
       exact hs _ (by simp)
      rw [List.map_map,List.map_map] at this
      exact this
     simpa using all hmem
    ·refine (hy.map _).trans ?_
     have e:(List.range es.size).map (fun i=>n0 (es.getD i (0,.none)).2)=es.toList.map fun e=>n0 e.2:=by
      apply List.ext_getElem
      ·simp
      ·intro i h1 h2
       have hm:i < es.size:=by simpa using h2
       simp [Array.getD,hm]
     rw [e]
     exact hp
  ·rw [List.length_map,hy.length_eq,List.length_range,hn]
   exact Nat.le_trans hb (by decide)
 ·rw [if_neg c]
  refine wpAny_bind (wpAny_pure (wpAny_bind (wpAny_setEpoch_of ho hd hf (wpAny_bind (wpAny_newObj_type ?_ (by size_fits))))))
  have keep:∀ b o,s.heap.get? b=some o->(s.heap.push (iY (.int 0 0) 0 a es.size ep)).get? b=some o:=fun b o e=>Heap.get?_push_of_some _ e
  refine wpAny_pure ⟨_,rfl, "set_iterator", _,⟨_,Heap.get?_push_size _ rfl,rfl⟩,FS.slot_next.lookup,h s.heap.objs.size _ s.drawn keep ?_⟩
  have hne:a≠s.heap.objs.size:=Nat.ne_of_lt hlt
  have sz:(s.heap.push (iY (.int 0 0) 0 a es.size ep)).objs.size=s.heap.objs.size+1:=Heap.size_push ..
  have hfp:∀ b∈[s.heap.objs.size,a],b < (s.heap.push (iY (.int 0 0) 0 a es.size ep)).objs.size/\(b=a∨s.heap.objs.size≤b):=fun b hb=>by
   rw [sz]
   simp only [List.mem_cons,List.not_mem_nil,or_false] at hb
   rcases hb with rfl | rfl
   ·exact⟨Nat.lt_succ_self _,.inr (Nat.le_refl _)⟩
   ·exact⟨Nat.lt_succ_of_lt hlt,.inl rfl⟩
  cases bt:w.params.followText "set-order" with
  | true=>
   refine⟨_,(pickOrder (w.params.setOrder a ep) es).map (·.2),_,fun A' hh=>pM hh hne hd hf _ (fun _=>0) fun A E s Q i hs' hi q=>?_,⟨Heap.get?_push_size _ rfl,keep _ _ ho⟩,by simp,hfp,Nat.le_refl _,?_⟩
   ·refine zG bt hs' hd hf ?_
    rw [Array.getElem?_map,Option.map_map] at q
    exact q
   ·have pp:=uZ (w.params.setOrder a ep) es
    refine⟨_,?_,(pp.map fun e=>n0 e.2).trans hp⟩
    rw [Array.toList_map]
    exact f6 fun e he=>hs e (pp.mem_iff.mp he)
  | false=>
   rw [bt] at c hl
   have c':(!t.plain && decide (es.size > 1))=false:=by simpa using c
   have R:jG t.place:=by
    cases pl:t.plain with
    | true=>exact (T pl).2
    | false=>
     rw [pl] at c'
     have h1:¬ es.size > 1:=by simpa using c'
     intro i j q hj
     have:t.place.size=es.size:=by
      unfold SetTable.fits at hf
      simp only [Bool.and_eq_true,beq_iff_eq,decide_eq_true_eq] at hf
      exact hf.1
     omega
   have hps:t.place.size=es.size:=by
    unfold SetTable.fits at hf
    simp only [Bool.and_eq_true,beq_iff_eq,decide_eq_true_eq] at hf
    exact hf.1
   refine⟨_,es.map (·.2),_,fun A' hh=>pM hh hne hd hf _ (v5 t) fun A E s Q i hs' hi q=>?_,⟨Heap.get?_push_size _ rfl,keep _ _ ho⟩,by simp,hfp,Nat.le_refl _,?_⟩
   ·rw [Array.size_map] at hi
    refine CH bt hl c' hs' hd hf ?_
    rw [sM R (by omega)]
    rw [Array.getElem?_map,Option.map_map] at q
    by_cases z:i < es.size
    ·rw [Array.getElem?_eq_getElem z] at q ⊢
     rw [Array.getElem?_eq_getElem (show i < t.place.size by omega)]
     have:v5 t (i+1)=t.place[i]'(by omega)+1:=by
      show t.place.getD i 0+1=_
      simp [Array.getD,show i < t.place.size by omega]
     simp only [Option.map_some,Function.comp_apply] at q
     rw [this] at q
     exact q
    ·rw [Array.getElem?_eq_none (by omega)] at q ⊢
     exact q
   ·refine⟨_,?_,hp⟩
    rw [Array.toList_map]
    exact f6 hs
end
open AutoSeq1 in
theorem z5 (l b:Addr) (xs ys:Array Value) (n m:Nat) (od:Option Addr) (osl:Array (Option Value)) (h0:¬(!xs.isEmpty && Builtin.List.listTooLong (xs.size+ys.size))=true) (h1:xs.size≤sizeLine) (h2:xs.size+ys.size≤sizeLine+1) :
  Meets (Builtin.«list.extend» ⟨[.ref l,.ref b],[]⟩) (fun _ R s=>s.heap.get? l=some { cls:=.type "list", dict:=none,data:=.seq xs n,slots:=#[] }/\s.heap.get? b=some { cls:=.type "tuple", dict:=od,data:=.seq ys m,slots:=osl }∧
   R (.ok (.ret Value.none)) { s with heap:=s.heap.update l (Obj.mapSeq fun x=>x++ys),toks:=s.toks }):=
 .of_wp fun prog w A R s h=>by
  obtain⟨hp,g,d,tk,os⟩:=s
  obtain⟨hl,hb,h⟩:=h
  have f1:=AutoSeq1.idx_int;have f2:=AutoSeq1.sub_tuple_tuple;have f3:=AutoSeq1.sub_list_list
  have f4:=AutoSeq1.sub_tuple_list;have f5:=AutoSeq1.sub_list_tuple
  have hz':(xs++ys).size≤sizeLine+1:=by rw [Array.size_append];omega
  wp_walk using (wpAny_updateSeq hl rfl (hz:=h1) (_hz':=hz')),wpAny_loadPart' hl,wpAny_loadPart' hb
  exact⟨_,rfl,h⟩
def Eb (K:Fg):V->List V->Hp->VK->Prop:=fun x vs H Q=>∃ l b xs zs,x=.ref l/\vs=[.ref b]/\H l=some (.lst xs)/\aZ K H b zs/\xs.length+zs.length≤1000/\Q .non (upd H l (.lst (xs++zs)))
theorem oY {X:Cx}:GY X "list.extend" (Eb X.K):=by
 intro pins s σ H x vs v us Q I rx rv h
 obtain⟨l,b,xs,zs,rfl,rfl,hH,hB,hz,q⟩:=h
 cases rx
 obtain⟨u,rfl,ru⟩:=rv.one
 cases ru
 obtain⟨z,its,n,r,hl,e⟩:=I.lstM hH
 obtain⟨its2,r2,⟨⟨oc,od,dt,sl⟩,e2,hc,n2,hd⟩,z2⟩:=I.tuple hB
 have hc':oc=.type "tuple" := hc
 have hd':dt=.seq its2.toArray n2:=hd
 subst hc' hd'
 have l1:=r.length
 have l2:=r2.length
 have big:1000≤sizeLine:=by decide
 have hsz:its.toArray.size+its2.toArray.size≤sizeLine:=by rw [List.size_toArray,List.size_toArray];omega
 have hlong:¬ (!its.toArray.isEmpty && Builtin.List.listTooLong (its.toArray.size+its2.toArray.size))=true:=by
  rw [xq hsz,Bool.and_false]
  decide
 refine call_meets F.slot_list_extend ⟨_,e,rfl⟩ F.entry_list_extend (F.args_list_extend_2 _ _) (z5 l b its.toArray its2.toArray n n2 od sl hlong (by rw [List.size_toArray];omega) (by omega)) ⟨e,e2,?_⟩
 refine⟨.non,_,I.lset (its':=its++its2) hH e (by simp) (r.append r2) ?_,rfl,q⟩
 rw [List.length_append]
 omega
theorem iK:∀ {ns:List Int} {us:List Value},bf (ns.map V.int) us->IntsAre us ns
 | [],[],_=>.nil
 | i :: ns,u :: us,h=>by
  cases h with
  | cons a t=>
   obtain⟨k,rfl⟩:=(show ∃ k,u=Value.int i k from a)
   exact .cons i k (iK t)
theorem oX:∀ {ns:List Int} {us:List Value},IntsAre us ns->bf (ns.map V.int) us
 | _,_,.nil=>.nil
 | _,_,.cons n t h=>.cons ⟨t,rfl⟩ (oX h)
def DW (K:Fg):List V->Hp->VK->Prop:=fun xs H Q=>∃ p ns,xs=[.ref p]/\(bj K H p (ns.map V.int)∨aZ K H p (ns.map V.int))/\ns.length < 64/\∀ (l:Addr) (ms:List Int),ms.Perm ns->ms.Pairwise (·≤·)->H l=none->Q (.ref l) (upd H l (.lst (ms.map V.int)))
theorem gM {X:Cx}:cU X (.builtin "sorted") (DW X.K):=by
 intro pins s σ H xs us Q I r h
 obtain⟨p,ns,rfl,hq,h64,q⟩:=h
 obtain⟨u,rfl,rx⟩:=eU r
 cases rx
 have go:∀ (its:List Value) (T:String) (o:Obj) (n:Nat),bf (ns.map V.int) its->(T = "list" ∨ T = "tuple")->s.heap.get? p=some o->o.cls=.type T->o.data=.seq its.toArray n→
   wpAny (model X.prog X.w) X.A (call (.builtin "sorted") [.ref p]) (EP X pins σ Q) X.xe s:=fun its T o n rv hT ho hc hd=>by
  have hln:its.length < 64:=by rw [← rv.length,List.length_map];exact h64
  have sz:its.toArray.size≤sizeLine:=by rw [List.size_toArray];exact Nat.le_trans (Nat.le_of_lt hln) (by decide)
  refine Calls.call_function_entry kind_sorted plain_sorted entry_sorted (args_sorted1 (.ref p)) ?_
  unfold Builtin.«sorted»
  refine wpAny_bind (m:=checkCount "sorted" 1 1 _) (wpAny_pure (wpAny_bind (wpAny_collect_seq p hT ho hc hd (fun h1 kp=>wpAny_bind (wpAny_newList ?_)) sz)))
  have hoL:(h1.push (seqObj "list" its.toArray 0)).get? h1.objs.size=some (seqObj "list" its.toArray 0):=Heap.get?_push_size _ rfl
  show wpAny _ _ _ _ _ { s with heap:=h1.push (seqObj "list" its.toArray 0) }
  refine wpAny_bind (wpAny_holding (wpAny_call_entry slot_list_sort ⟨_,hoL,rfl⟩ entry_list_sort (list_sort_tree hoL (iK rv) hln fun out ms a1 a2 a3=>⟨_,rfl,wpAny_pure ⟨_,rfl,?_⟩⟩) (args_list_sort _)))
  have I1:L2.Inv X pins σ H { s with heap:=h1 }:=I.kept (t':=s.toks) kp
  obtain⟨ep,he⟩:=sortedHeap_at (out:=out) hoL
  have lm:(ms.map V.int).length≤sizeLine:=by rw [List.length_map,a2.length_eq];exact Nat.le_trans (Nat.le_of_lt h64) (by decide)
  refine⟨.ref h1.objs.size,_,I1.laid (a:=h1.objs.size) (o:=.lst (ms.map V.int)) (t':=s.toks) (fun b u hb=>?_) (Nat.le_refl _) ⟨lm,out.toList,ep,oX a1,by simpa using he⟩,rfl,q _ ms a2 a3 (I1.hok.fresh (Nat.le_refl _))⟩
  have hlt:b < h1.objs.size:=Heap.lt_size hb
  rw [sortedHeap_old (Nat.ne_of_lt hlt) (by rw [size_push'];exact Nat.lt_succ_of_lt hlt)]
  exact Heap.get?_push_of_some _ hb
 rcases hq with hq | hq
 ·obtain⟨its,r',pl,_⟩:=I.list hq
  obtain⟨o,ho,hc,n,hd⟩:=pl.isList
  exact go its "list" o n r' (.inl rfl) ho hc hd
 ·obtain⟨its,r',⟨o,ho,hc,n,hd⟩,_⟩:=I.tuple hq
  exact go its "tuple" o n r' (.inr rfl) ho hc hd
section
variable {prog:Program} {w:World} {A:Around} {E:cJ} {s:Shared}
theorem zQ {acc items:Array Value} {ms:List Int} (h:IntsAre items.toList ms) (hi:ItemsOf (fun i v=>items[i]?=some v) acc items.size):IntsAre acc.toList ms:=by
 have e:acc=items:=by
  apply Array.ext_getElem?
  intro i
  by_cases c:i < acc.size
  ·have:=hi.2 i acc[i] (Array.getElem?_eq_getElem c)
   rw [this,Array.getElem?_eq_getElem c]
  ·rw [Array.getElem?_eq_none (by omega),Array.getElem?_eq_none (by have:=hi.1;omega)]
 rw [e];exact h
theorem qT {a:Addr} {ks:List Int} {Q:List Value->Shared->Prop} (hh:A.handled=none) (I:cE w s.heap a ks) (hb:ks.length≤1000)
  (h:∀ (items:List Value) (ms:List Int) h' d tk,IntsAre items ms->ms.Perm ks->(∀ b o,s.heap.get? b=some o->h'.get? b=some o)->Q items { s with heap:=h',drawn:=d,toks:=tk }):wpAny (model prog w) A (collect (.ref a)) Q E s:=by
 have hlt:a < s.heap.objs.size:=by obtain⟨o,_,_,_,ho,_⟩:=I;exact Heap.lt_size ho
 have hSa:s.heap.objs.size≠a:=Nat.ne_of_gt hlt
 unfold collect
 refine wpAny_bind (wpAny_runValue (codeAny_builtin PySem.F.entry_proto_collect ?_))
 rw [Around.under_plainId PySem.F.plain_proto_collect _]
 show wpAny _ A.in1 (newList [] >>= fun l=>again (.builtin "list.__iadd__" ⟨[l,.ref a],[]⟩)) _ _ s
 refine wpAny_bind (wpAny_newObj_type ?_)
 refine wpAny_pure ⟨plainId_quiet PySem.F.plain_list_iadd _,codeAny_builtin PySem.F.entry_list_iadd ?_⟩
 rw [Around.under_plainId PySem.F.plain_list_iadd _]
 have I1:cE w (s.heap.push { cls:=.type "list", data:=.seq ([]:List Value).toArray }) a ks:=I.at fun o e=>Heap.get?_push_of_some _ e
 have hS₁:(s.heap.push { cls:=.type "list", data:=.seq ([]:List Value).toArray }).get? s.heap.objs.size=some { cls:=.type "list", data:=.seq ([]:List Value).toArray }:=Heap.get?_push_size _ rfl
 show wpAny _ A.in1 (Builtin.List.listExtendWith (.ref s.heap.objs.size) (.ref a) (.ref s.heap.objs.size)) _ _ _
 unfold Builtin.List.listExtendWith
 have tys:∀ (h:Heap) (s1:Shared),cE w h a ks->s1.heap=h->s1.TypeIs (.ref a) "set" := fun h s1 J e=>by
  obtain⟨o,_,_,_,ho,hx,_⟩:=J
  exact⟨o,by rw [e];exact ho,hx.1⟩
 refine wpAny_bind (wpAny_typeOf (tys _ _ I1 rfl) ?_)
 have h1:Builtin.List.listSameRef (.ref s.heap.objs.size) (.ref a)=false:=by simp [Builtin.List.listSameRef,hSa]
 have h2:(Value.type "set" == Value.type "list")=false:=by decide
 have h3:(Value.type "set" == Value.type "tuple")=false:=by decide
 simp only [h1,h2,h3,Bool.or_false,Bool.false_eq_true,if_false]
 refine wpAny_bind (xG (prog:=prog) I1 hb fun It h' d keep W=>?_)
 obtain⟨fp,items,St,W,st,hI,hfp,hge,ms,hms,hpm⟩:=W
 have sz:(s.heap.push { cls:=.type "list", data:=.seq ([]:List Value).toArray }).objs.size=s.heap.objs.size+1:=Heap.size_push ..
 refine wpAny_bind (wpAny_holding ?_)
 unfold Builtin.List.listLengthHint
 have I2:cE w h' a ks:=I1.at fun o e=>keep a o e
 have t2:=tys h' { s with heap:=h',drawn:=d } I2 rfl
 refine wpAny_bind (wpAny_specialOf t2 PySem.F.slot_set_len.lookup ?_)
 (generalize fC:("set.__len__" : String)=id0;(fail_if_success (clear fC id0));wp_delta;rw [show splitId id0=some ("set", "__len__") from by subst fC;decide +kernel];subst fC)
 refine wpAny_bind (wpAny_isInstance (b:=true) t2 sub_set_self ?_)
 show wpAny _ A.in1 (typeOf (Value.ref a) >>= _) _ _ _
 refine wpAny_bind (wpAny_typeOf t2 (wpAny_pure ?_))
 have hS2:h'.get? s.heap.objs.size=some { cls:=.type "list", data:=.seq ([]:List Value).toArray }:=keep _ _ hS₁
 have hSf:s.heap.objs.size∉fp:=fun hm=>by
  rcases (hfp _ hm).2 with e | e
  ·exact hSa e
  ·rw [sz] at e;exact Nat.not_succ_le_self _ e
 show wpAny _ A.in1 (rule "list.extend.makes-room" >>= fun _=>Builtin.List.listTouch (.ref s.heap.objs.size) >>= fun _=>
  again (.builtin "list.extend.loop" ⟨[.ref s.heap.objs.size,.ref It,.ref s.heap.objs.size],[]⟩)) _ _ _
 refine wpAny_bind (wpAny_rule (wpAny_bind ?_))
 show wpAny _ A.in1 (updateSeq s.heap.objs.size (·.push .none) >>= fun _=>updateSeq s.heap.objs.size (·.pop)) _ _ _
 refine wpAny_bind (wpAny_updateSeq hS2 rfl ?_)
 have hS3:=Heap.get?_update_self (Obj.mapSeq (·.push Value.none)) hS2 rfl
 refine wpAny_updateSeq hS3 rfl ?_
 have hS4:=Heap.get?_update_self (Obj.mapSeq (·.pop)) hS3 rfl
 have oth:∀ b o,b≠s.heap.objs.size->h'.get? b=some o->((h'.update s.heap.objs.size (Obj.mapSeq (·.push Value.none))).update s.heap.objs.size (Obj.mapSeq (·.pop))).get? b=some o:=
  fun b o hb e=>(Heap.get?_update_other _ _ (Ne.symm hb)).trans ((Heap.get?_update_other _ _ (Ne.symm hb)).trans e)
 have hn:items.size≤sizeLine:=by
  rw [← Array.length_toList,IntsAre.length hms,hpm.length_eq]
  exact Nat.le_trans hb (by decide)
 have W1:=W A.in1 (by simp [hh])
 refine wpAny_pure ⟨plainId_quiet PySem.F.plain_extend_loop _,codeAny_extend_loopS W1 hn _ hSf _ items.size 0 _ _ _ rfl (Nat.zero_le _)
  (W1.frame 0 ({ s with heap:=h',drawn:=d }:Shared) _ s.toks st (Nat.le_refl _) fun b hb o e=>oth b o (fun h=>hSf (h ▸ hb)) e) hS4 (ItemsOf.nil _) fun s' acc' c' hm hS' hacc=>?_⟩
 show wpAny _ A (load s.heap.objs.size >>= _) _ _ s'
 refine wpAny_bind (wpAny_load hS' (wpAny_pure ?_))
 obtain⟨h3,g3,d3,t3,o3⟩:=s'
 obtain rfl:g3=s.gens:=hm.gens
 obtain rfl:d3=d:=hm.drawn
 obtain rfl:o3=s.os:=hm.os
 refine h acc'.toList ms h3 d3 t3 (zQ hms hacc) hpm fun b o e=>?_
 have hb1:b < s.heap.objs.size:=Heap.lt_size e
 refine hm.heap b o ?_ (oth b o (Nat.ne_of_lt hb1) (keep b o (Heap.get?_push_of_some _ e)))
 simp only [List.mem_cons,List.not_mem_nil,or_false,not_or]
 exact⟨Nat.ne_of_lt hb1,Nat.ne_of_lt (Nat.lt_of_lt_of_le hb1 (Nat.le_trans (Nat.le_succ _) (show s.heap.objs.size+1≤It from by rw [← sz];exact hge)))⟩
end
theorem Inv.drew {X:Cx} {pins:cf} {σ:L2.St} {H:Hp} {s:Shared} (d:Drawn) (I:L2.Inv X pins σ H s):L2.Inv X pins σ H { s with drawn:=d }:=
 ⟨I.ok,I.os,I.bare,I.base,I.loc,I.cell,I.free,I.freeC,I.pin,I.hok,I.len⟩
def qk (w:World) (a:Addr) (ks:List Int):HO:=.ext fun h=>cE w h a ks
theorem yN {P:Program} {w:World} {H:Hp} {h:Heap} {a:Addr} {ks:List Int} (e:cE w h a ks):ObjOk P w H h a (qk w a ks):=
 ⟨e,let ⟨o,_,_,_,q,_⟩:=e;⟨o,q⟩,fun _ _ q k=>q.at k⟩
def AH (w:World) (K:Fg):List V->Hp->VK->Prop:=fun xs H Q=>∃ p ns,xs=[.ref p]/\(bj K H p (ns.map V.int)∨aZ K H p (ns.map V.int))/\ns.length≤1000/\∀ l,H l=none->Q (.ref l) (upd H l (qk w l (b6 ns)))
theorem vz {X:Cx} (hc:X.calm=true):cU X (.type "set") (AH X.w X.K):=by
 intro pins s σ H xs us Q I r h
 obtain⟨p,ns,rfl,hq,hz,q⟩:=h
 obtain⟨u,rfl,rx⟩:=eU r
 cases rx
 have go:∀ (its:List Value) (T:String) (o:Obj) (n:Nat),bf (ns.map V.int) its->(T = "list" ∨ T = "tuple")->s.heap.get? p=some o->o.cls=.type T->o.data=.seq its.toArray n→
   wpAny (model X.prog X.w) X.A (call (.type "set") [.ref p]) (EP X pins σ Q) X.xe s:=fun its T o n rv hT ho hc' hd=>by
  have hl:=rv.length
  rw [List.length_map] at hl
  refine zT (ns:=ns) hT (I.ok.hd hc) ho hc' hd (by simpa using iK rv) (by rw [List.size_toArray,← hl];unfold scanBound;omega) fun h' tk hS hk=>?_
  exact⟨.ref s.heap.objs.size,_,I.laid (a:=s.heap.objs.size) (o:=qk X.w s.heap.objs.size (b6 ns)) (t':=tk) (fun b o e=>hk b o (Heap.lt_size e) e) (Nat.le_refl _) (yN hS),rfl,q _ (I.hok.fresh (Nat.le_refl _))⟩
 rcases hq with hq | hq
 ·obtain⟨its,r',pl,_⟩:=I.list hq
  obtain⟨o,ho,hc',n,hd⟩:=pl.isList
  exact go its "list" o n r' (.inl rfl) ho hc' hd
 ·obtain⟨its,r',⟨o,ho,hc',n,hd⟩,_⟩:=I.tuple hq
  exact go its "tuple" o n r' (.inr rfl) ho hc' hd
def wc (w:World):List V->Hp->VK->Prop:=fun xs H Q=>∃ p ks,xs=[.ref p]/\H p=some (qk w p ks)/\ks.length < 64/\∀ (l:Addr) (ms:List Int),ms.Perm ks->ms.Pairwise (·≤·)->H l=none->Q (.ref l) (upd H l (.lst (ms.map V.int)))
theorem pD {X:Cx} (hc:X.calm=true):cU X (.builtin "sorted") (wc X.w):=by
 intro pins s σ H xs us Q I r h
 obtain⟨p,ks,rfl,hp,h64,q⟩:=h
 obtain⟨u,rfl,rx⟩:=eU r
 cases rx
 have S:cE X.w s.heap p ks:=(show ObjOk X.prog X.w H s.heap p (qk X.w p ks) from I.hok p _ hp).1
 refine Calls.call_function_entry kind_sorted plain_sorted entry_sorted (args_sorted1 (.ref p)) ?_
 unfold Builtin.«sorted»
 refine wpAny_bind (m:=checkCount "sorted" 1 1 _) (wpAny_pure (wpAny_bind (qT (by simp [I.ok.hd hc]) S (by omega) fun its ns h1 d tk hi hpm kp=>?_)))
 have hln:its.length < 64:=by rw [IntsAre.length hi,hpm.length_eq];exact h64
 have sz:its.length≤sizeLine:=Nat.le_trans (Nat.le_of_lt hln) (by decide)
 refine wpAny_bind (wpAny_newList ?_ sz)
 have hoL:(h1.push (seqObj "list" its.toArray 0)).get? h1.objs.size=some (seqObj "list" its.toArray 0):=Heap.get?_push_size _ rfl
 show wpAny _ _ _ _ _ { s with heap:=h1.push (seqObj "list" its.toArray 0),drawn:=d,toks:=tk }
 refine wpAny_bind (wpAny_holding (wpAny_call_entry slot_list_sort ⟨_,hoL,rfl⟩ entry_list_sort (list_sort_tree hoL (by simpa using hi) hln fun out ms a1 a2 a3=>⟨_,rfl,wpAny_pure ⟨_,rfl,?_⟩⟩) (args_list_sort _)))
 have I1:L2.Inv X pins σ H { s with heap:=h1,drawn:=d,toks:=tk }:=Inv.drew d (I.kept (t':=tk) kp)
 obtain⟨ep,he⟩:=sortedHeap_at (out:=out) hoL
 have lm:(ms.map V.int).length≤sizeLine:=by rw [List.length_map,a2.length_eq,hpm.length_eq];exact Nat.le_trans (Nat.le_of_lt h64) (by decide)
 refine⟨.ref h1.objs.size,_,I1.laid (a:=h1.objs.size) (o:=.lst (ms.map V.int)) (t':=tk) (fun b u hb=>?_) (Nat.le_refl _) ⟨lm,out.toList,ep,oX a1,by simpa using he⟩,rfl,q _ ms (a2.trans hpm) a3 (I1.hok.fresh (Nat.le_refl _))⟩
 have hlt:b < h1.objs.size:=Heap.lt_size hb
 rw [sortedHeap_old (Nat.ne_of_lt hlt) (by rw [size_push'];exact Nat.lt_succ_of_lt hlt)]
 exact Heap.get?_push_of_some _ hb
def Gu (ta:TA):TE:=fun σ H Q=>ta σ H fun vs H1=>∃ i j:Int,vs=[.int i,.int j]/\∀ p,H1 p=none->Q (.ref p) (upd H1 p (.rng i j))
def Fj:R2:=fun x y H Q=>∃ (i:Int) (p:Addr) (lo hi:Int),x=.int i/\y=.ref p/\H p=some (.rng lo hi)/\Q (.bl (!(decide (lo≤i) && decide (i < hi)))) H
section
set_option autoImplicit true
set_option relaxedAutoImplicit true
end
def EQ (lo n:Nat):List Nat:=(List.range n).map fun i=>lo+i
def Hs:List V->Hp->VK->Prop:=fun xs H Q=>∃ p,∃ lo n:Nat,xs=[.ref p]/\H p=some (.rng (lo:Int) ((lo+n:Nat):Int))/\lo+n≤1000/\∀ l,H l=none->Q (.ref l) (upd H l (.lst ((EQ lo n).map fun i:Nat=>V.int i)))
theorem jD:bootBuiltins "set" = some (.type "set"):=by kernel_rfl
theorem iP {X:Cx} {w:World} (hw:X.w=w) (hc:X.calm=true):cU X (.type "set") (AH w X.K):=hw ▸ vz hc
theorem fz {X:Cx} {w:World} (hw:X.w=w) (hc:X.calm=true):cU X (.builtin "sorted") (wc w):=hw ▸ pD hc
theorem nP:∀ {bs:List Bool} {us:List Value},bf (bs.map V.bl) us->∀ {i:Nat} {v:Value},us[i]?=some v->v=.bool (bs.getD i false)
 | [],_,.nil,i,v,e=>by cases e
 | b :: bs,_,.cons r t,0,v,e=>by
  rw [List.getElem?_cons_zero] at e
  cases e
  exact (show _=Value.bool b from r)
 | b :: bs,_,.cons r t,i+1,v,e=>by
  rw [List.getElem?_cons_succ] at e
  exact nP t e
theorem nV:∀ (bs:List Bool),(List.range bs.length).any (fun i=>bs.getD i false)=bs.any id
 | []=>rfl
 | b :: bs=>by
  rw [List.length_cons,List.range_succ_eq_map,List.any_cons,List.any_map,List.any_cons]
  have:=nV bs
  show (b || (List.range bs.length).any (fun i=>bs.getD i false))=(id b || bs.any id)
  rw [this];rfl
theorem vB {X:Cx} (hc:X.calm=true):cU X (.builtin "any") (fun xs H Q=>∃ (p:Addr) (bs:List Bool),xs=[.ref p]/\bj X.K H p (bs.map V.bl)/\Q (.bl (bs.any id)) H):=by
 intro pins s σ H xs us Q I r h
 obtain⟨p,bs,rfl,hq,q⟩:=h
 obtain⟨u,rfl,rx⟩:=eU r
 cases rx
 obtain⟨its,rv,pl,hz⟩:=I.list hq
 have ne:p≠s.heap.objs.size:=by
  obtain⟨o,ho,_⟩:=pl.isList
  exact Nat.ne_of_lt (Heap.lt_size ho)
 have hlen:its.toArray.size=bs.length:=by rw [List.size_toArray,← rv.length,List.length_map]
 refine call_any_walk (wpAny_pyIter_list pl.isList ?_)
 refine⟨_,_,_,_,_,_,fun i=>bs.getD i false,rfl,Walks.list (A:=X.A.in1) (I.ok.hd hc) _ p ne its.toArray,⟨⟨_,Heap.get?_push_size _ rfl,rfl,rfl⟩,pl.isList.push _⟩,fun i v s' Q' E' hv hQ=>?_,fun h' tk hk=>?_⟩
 ·have e:=nP rv (i:=i) (v:=v) (by simpa using hv)
  subst e
  exact wpAny_truthy_bool hQ
 ·rw [hlen,nV]
  refine⟨.bl _,H,I.kept (t':=tk) fun b o e=>hk b o (fun z=>?_) (Heap.get?_push_of_some _ e),rfl,q⟩
  rw [List.mem_singleton.mp z] at e
  exact absurd (Heap.lt_size e) (Nat.lt_irrefl _)
theorem wl {X:Cx} {i o:Expr} {pos:Pos} {td ty:TE} (hu:X.A.units+1 < cLine) (hi:QE X i ty) (ho:QE X o td) (hm:behindInMarks .In o=false):QE X (.Compare i [.In] [o] pos) (DL ty td):=⟨B5 (B7 hu hi.p ho.p) hm⟩
def Az (te:TE) (i:Nat):TS:=fun D σ H=>te σ H fun x H1=>∃ σ',σ.set i (some x)=σ'/\D.nx σ' H1
theorem F9 (te:TE) (i:Nat):Az te i=oi te (i9 i):=by
 funext D σ H
 show te σ H _=te σ H _
 congr 1
 funext x H1
 refine propext ⟨fun⟨_,e,h⟩=>?_,fun h=>⟨_,rfl,h⟩⟩
 subst e
 exact h
theorem eZ {X:Cx} {s:Stmt} {te:TE} {i:Nat} (h:QS X s (oi te (i9 i))):QS X s (Az te i):=by rw [F9];exact h
end B
namespace My
open PySem L2 B PyProof.Rows
theorem cV {X:Cx} {pos:Pos} (i:Nat) {x:Str} {e:Expr} {te:TE} {pos':Pos} (hN:X.N.Nodup) (he:QE X e te) (hi:X.N[i]?=some x:=by rfl) (hx:Ao X.env.scope x:=by first | exact Or.inl rfl | exact Or.inr rfl) (hs:swapsWith e (some (.Name x pos')) pos.line X.env=pure false:=by rfl) (hf:X.fn x=true∨X.env.scope.names.lookup x=some .local:=by first | exact .inl rfl | exact .inr rfl | assumption):QS X (.Assign [.Name x pos'] e pos) (oi te (i9 i)):=BE hN hi hx he hs hf
theorem eY {N P:List Str} {sc:Scope} (a:sc.kind=.function:=by rfl) (b:sc.isCoroutine=false:=by rfl) (c:sc.isGenerator=false:=by rfl) (d:N.Nodup:=by decide +kernel) (e:N.take P.length=P:=by rfl) (f:∀ x∈P,sc.names.lookup x=some .local∨sc.names.lookup x=some .cell:=by decide +kernel) (g:∀ y∈sc.names,y.2≠.free:=by decide +kernel):aO N P sc:=⟨a,b,c,d,e,f,g⟩
theorem dA {X:Cx} {k j:Nat} {f:Addr} {fd:FuncData} {ps:List Str} {sp:Sp} {x:Str} {p pos:Pos} {e:Expr} {es:List Expr} {t:TA} (F:bK X.prog X.w X.K X.mg X.base d9 k f fd ps sp) (hr:dD j X.A) (hm:X.mg x=some (.ref f)) (hk:PySem.W.keepIn X.K (.ref f)=true) (hb:bi X.K fd ps []) (ha:QA X (e :: es) t) (hl:k≤j:=by decide) (hg:Gl X x:=by rfl) (hdb:(x == ("__debug__" : Str))=false:=by decide) (he:starEach (e :: es) X.env=(false,eval e X.env) :: starEach es X.env:=by rfl) (hpl:(backTo pos (starEach es X.env)).any (·.1)=false:=by rfl):QE X (.Call (.Name x p) (e :: es) [] pos) (pV sp [] E0 t):=dP F (hr.mono hl) hg hm hk hb .nil jK ha hdb he hpl
theorem bX {X:Cx} {a b:Expr} {ta tb:TE} {pos:Pos} {r:R2} (hr:Do X r) (ha:QE X a ta) (hb:QE X b tb) (hs:pF b:=by exact fun _ _=>rfl):QE X (.Subscript a b pos) (yG r ta tb):=cj hr ha hb hs
class gQ {α:Type} (P:Fg->Hp->V->α->Prop):Prop where
 mono:∀ {K:Fg} {H H':Hp} {v:V} {d:α},bn K H H'->P K H v d->P K H' v d
theorem aM {α:Type} {P:Fg->Hp->V->α->Prop} [gQ P] {K:Fg} {H H':Hp} {xs:List V} {ds:List α} (e:aw H H') (h:cL (P K H) xs ds):cL (P K H') xs ds:=h.mono fun _ _ q=>gQ.mono (bn.same e) q
theorem aT {α:Type} {P:Fg->Hp->V->α->Prop} [gQ P] {K:Fg} {t:Addr} {H H':Hp} {xs:List V} {ds:List α} (e:bB t H H') (h:cL (P K H) xs ds):cL (P K H') xs ds:=h.mono fun _ _ q=>gQ.mono (bn.step e) q
theorem aU {α:Type} {P:Fg->Hp->V->α->Prop} [gQ P] {K:Fg} {H H':Hp} {xs:List V} {ds:List α} (e:bn K H H') (h:cL (P K H) xs ds):cL (P K H') xs ds:=h.mono fun _ _ q=>gQ.mono e q
instance:gQ RV:=⟨fun t q=>q.mono t⟩
theorem fk {K:Fg} {x qual:Str} {st:Stmt} {f:Addr} {fd:FuncData} {ps:List Str} (F:Fun K x qual st f fd) (h:∀ (kV doc pm:Value) (an:Option Addr) (cdv ct:Value) (us:List Value),us.length=ps.length->bindArgs (PySem.W.fnOf x qual (aQ st) (aI st) (ai st) .none kV doc pm an cdv ct) ⟨us,[]⟩=pure (ps.zip us):=by
 intro _ _ _ _ _ _ us hl
 match us,hl with
 | [],h2=>first | rfl | (simp at h2)
 | [_],h2=>first | rfl | (simp at h2)
 | [_,_],h2=>first | rfl | (simp at h2)
 | [_,_,_],h2=>first | rfl | (simp at h2)
 | [_,_,_,_],h2=>first | rfl | (simp at h2)
 | _ :: _ :: _ :: _ :: _ :: _,h2=>simp at h2):bi K fd ps []:=F.binds h
def top (i:Nat):Stmt:=PySem.Challenge.pw_paceplan_k35_papers_of_stretches_asked.main.body.getD i (.Pass ⟨0,0,0,0⟩)
abbrev mV:Stmt:=top 1
abbrev nh:Stmt:=top 2
abbrev uI:Stmt:=top 3
abbrev m7:Stmt:=top 4
abbrev mI:Stmt:=top 5
abbrev uQ:Stmt:=top 19
abbrev mH:Stmt:=top 20
abbrev mE:Stmt:=top 21
abbrev mG:Stmt:=top 22
abbrev mD:Stmt:=top 23
abbrev mN:Stmt:=top 24
abbrev mF:Stmt:=top 25
abbrev uL:Stmt:=top 28
abbrev uO:Stmt:=top 30
abbrev uN:Stmt:=top 31
abbrev ng:Stmt:=top 32
abbrev mU:Stmt:=top 33
abbrev nc:Stmt:=top 34
abbrev uK:Stmt:=top 35
abbrev uM:Stmt:=top 36
abbrev mT:Stmt:=top 38
abbrev mS:Stmt:=top 39
abbrev m6:Stmt:=top 40
abbrev mR:Stmt:=top 41
abbrev mM:Stmt:=top 42
abbrev mL:Stmt:=top 43
abbrev mQ:Stmt:=top 44
abbrev mK:Stmt:=top 45
abbrev m5:Stmt:=top 46
abbrev m4:Stmt:=top 47
abbrev uH:Stmt:=top 48
abbrev m9:Stmt:=top 49
abbrev mP:Stmt:=top 50
abbrev uP:Stmt:=top 51
abbrev mZ:Stmt:=top 52
abbrev mJ:Stmt:=top 53
abbrev m8:Stmt:=top 54
abbrev mY:Stmt:=top 55
abbrev uJ:Stmt:=top 56
abbrev mO:Stmt:=top 57
abbrev mX:Stmt:=top 58
abbrev mW:Stmt:=top 59
abbrev iW:Stmt:=top 60
abbrev iX:Stmt:=zS (top 12) 0
structure Ad where
 a_Q25:Addr
 d_Q25:FuncData
 a_Q10:Addr
 d_Q10:FuncData
 a_Q8:Addr
 d_Q8:FuncData
 a_Q15:Addr
 d_Q15:FuncData
 a_Q43:Addr
 d_Q43:FuncData
 a_Q0:Addr
 d_Q0:FuncData
 a_Q47:Addr
 d_Q47:FuncData
 a_Q50:Addr
 d_Q50:FuncData
 a_Q48:Addr
 d_Q48:FuncData
 a_Q51:Addr
 d_Q51:FuncData
 a_Q33:Addr
 d_Q33:FuncData
 a_Q49:Addr
 d_Q49:FuncData
 a_Q5:Addr
 d_Q5:FuncData
 a_Q2:Addr
 d_Q2:FuncData
 a_Q3:Addr
 d_Q3:FuncData
 a_Q11:Addr
 d_Q11:FuncData
 a_Q26:Addr
 d_Q26:FuncData
 a_Q12:Addr
 d_Q12:FuncData
 a_Q6:Addr
 d_Q6:FuncData
 a_Q4:Addr
 d_Q4:FuncData
 a_Q27:Addr
 d_Q27:FuncData
 a_Q28:Addr
 d_Q28:FuncData
 a_Q16:Addr
 d_Q16:FuncData
 a_Q29:Addr
 d_Q29:FuncData
 a_Q34:Addr
 d_Q34:FuncData
 a_Q35:Addr
 d_Q35:FuncData
 a_Q30:Addr
 d_Q30:FuncData
 a_Q36:Addr
 d_Q36:FuncData
 a_Q17:Addr
 d_Q17:FuncData
 a_Q18:Addr
 d_Q18:FuncData
 a_Q9:Addr
 d_Q9:FuncData
 a_Q13:Addr
 d_Q13:FuncData
 a_Q31:Addr
 d_Q31:FuncData
 a_Q1:Addr
 d_Q1:FuncData
 a_Q19:Addr
 d_Q19:FuncData
 a_Q37:Addr
 d_Q37:FuncData
 a_Q14:Addr
 d_Q14:FuncData
 a_Q20:Addr
 d_Q20:FuncData
 a_Q7:Addr
 d_Q7:FuncData
 a_Q32:Addr
 d_Q32:FuncData
 a_Q21:Addr
 d_Q21:FuncData
 a_Q22:Addr
 d_Q22:FuncData
 a_Q52:Addr
 d_Q52:FuncData
 c_NOUGHT:Addr
 k_TURNS:Tok
 c_base:Addr
 c_Q23:Addr
 a_Q23:Addr
 d_Q23:FuncData
 c_Q24:Addr
 c_Q38:Addr
 c_Q44:Addr
 c_Q45:Addr
 c_Q39:Addr
 c_Q46:Addr
 c_Q40:Addr
 c_Q41:Addr
 c_Q42:Addr
structure eR (K:Fg) (mg:Str->Option Value) (t:Ad):Prop where
 F_Q25:Fun K "is_whole" "is_whole" mV t.a_Q25 t.d_Q25
 b_Q25:bi K t.d_Q25 ["thing"] []
 m_Q25:mg "is_whole" = some (.ref t.a_Q25)
 F_Q10:Fun K "is_tuple_of" "is_tuple_of" nh t.a_Q10 t.d_Q10
 b_Q10:bi K t.d_Q10 ["thing", "length"] []
 m_Q10:mg "is_tuple_of" = some (.ref t.a_Q10)
 F_Q8:Fun K "is_number_of" "is_number_of" uI t.a_Q8 t.d_Q8
 b_Q8:bi K t.d_Q8 ["thing", "count"] []
 m_Q8:mg "is_number_of" = some (.ref t.a_Q8)
 F_Q15:Fun K "is_rising" "is_rising" m7 t.a_Q15 t.d_Q15
 b_Q15:bi K t.d_Q15 ["thing", "count"] []
 m_Q15:mg "is_rising" = some (.ref t.a_Q15)
 F_Q43:Fun K "copied" "copied" mI t.a_Q43 t.d_Q43
 b_Q43:bi K t.d_Q43 ["thing"] []
 m_Q43:mg "copied" = some (.ref t.a_Q43)
 F_Q0:Fun K "greatest_divisor" "greatest_divisor" uQ t.a_Q0 t.d_Q0
 b_Q0:bi K t.d_Q0 ["one", "other"] []
 m_Q0:mg "greatest_divisor" = some (.ref t.a_Q0)
 F_Q47:Fun K "ratio" "ratio" mH t.a_Q47 t.d_Q47
 b_Q47:bi K t.d_Q47 ["top", "bottom"] []
 m_Q47:mg "ratio" = some (.ref t.a_Q47)
 F_Q50:Fun K "plus" "plus" mE t.a_Q50 t.d_Q50
 b_Q50:bi K t.d_Q50 ["one", "other"] []
 m_Q50:mg "plus" = some (.ref t.a_Q50)
 F_Q48:Fun K "times" "times" mG t.a_Q48 t.d_Q48
 b_Q48:bi K t.d_Q48 ["one", "other"] []
 m_Q48:mg "times" = some (.ref t.a_Q48)
 F_Q51:Fun K "over" "over" mD t.a_Q51 t.d_Q51
 b_Q51:bi K t.d_Q51 ["one", "other"] []
 m_Q51:mg "over" = some (.ref t.a_Q51)
 F_Q33:Fun K "is_less" "is_less" mN t.a_Q33 t.d_Q33
 b_Q33:bi K t.d_Q33 ["one", "other"] []
 m_Q33:mg "is_less" = some (.ref t.a_Q33)
 F_Q49:Fun K "total" "total" mF t.a_Q49 t.d_Q49
 b_Q49:bi K t.d_Q49 ["some"] []
 m_Q49:mg "total" = some (.ref t.a_Q49)
 F_Q5:Fun K "layer_density" "layer_density" uL t.a_Q5 t.d_Q5
 b_Q5:bi K t.d_Q5 ["works", "layer"] []
 m_Q5:mg "layer_density" = some (.ref t.a_Q5)
 F_Q2:Fun K "is_layer_shaped" "is_layer_shaped" uO t.a_Q2 t.d_Q2
 b_Q2:bi K t.d_Q2 ["thing", "count"] []
 m_Q2:mg "is_layer_shaped" = some (.ref t.a_Q2)
 F_Q3:Fun K "is_paper_shaped" "is_paper_shaped" uN t.a_Q3 t.d_Q3
 b_Q3:bi K t.d_Q3 ["thing", "count"] []
 m_Q3:mg "is_paper_shaped" = some (.ref t.a_Q3)
 F_Q11:Fun K "first_again" "first_again" ng t.a_Q11 t.d_Q11
 b_Q11:bi K t.d_Q11 ["rows"] []
 m_Q11:mg "first_again" = some (.ref t.a_Q11)
 F_Q26:Fun K "ask_once" "ask_once" mU t.a_Q26 t.d_Q26
 b_Q26:bi K t.d_Q26 ["works", "paper"] []
 m_Q26:mg "ask_once" = some (.ref t.a_Q26)
 F_Q12:Fun K "ask_windows" "ask_windows" nc t.a_Q12 t.d_Q12
 b_Q12:bi K t.d_Q12 ["works", "paper"] []
 m_Q12:mg "ask_windows" = some (.ref t.a_Q12)
 F_Q6:Fun K "ask_densities" "ask_densities" uK t.a_Q6 t.d_Q6
 b_Q6:bi K t.d_Q6 ["works", "paper"] []
 m_Q6:mg "ask_densities" = some (.ref t.a_Q6)
 F_Q4:Fun K "lets_stretches" "lets_stretches" uM t.a_Q4 t.d_Q4
 b_Q4:bi K t.d_Q4 ["works", "thing"] []
 m_Q4:mg "lets_stretches" = some (.ref t.a_Q4)
 F_Q27:Fun K "_law_tape" "_law_tape" mT t.a_Q27 t.d_Q27
 b_Q27:bi K t.d_Q27 ["_law_script"] []
 m_Q27:mg "_law_tape" = some (.ref t.a_Q27)
 F_Q28:Fun K "_law_draw" "_law_draw" mS t.a_Q28 t.d_Q28
 b_Q28:bi K t.d_Q28 ["_law_tape_here", "_law_many"] []
 m_Q28:mg "_law_draw" = some (.ref t.a_Q28)
 F_Q16:Fun K "_law_alike" "_law_alike" m6 t.a_Q16 t.d_Q16
 b_Q16:bi K t.d_Q16 ["_law_due", "_law_found"] []
 m_Q16:mg "_law_alike" = some (.ref t.a_Q16)
 F_Q29:Fun K "_law_frac" "_law_frac" mR t.a_Q29 t.d_Q29
 b_Q29:bi K t.d_Q29 ["_law_top", "_law_bottom"] []
 m_Q29:mg "_law_frac" = some (.ref t.a_Q29)
 F_Q34:Fun K "_law_add" "_law_add" mM t.a_Q34 t.d_Q34
 b_Q34:bi K t.d_Q34 ["_law_one_here", "_law_other"] []
 m_Q34:mg "_law_add" = some (.ref t.a_Q34)
 F_Q35:Fun K "_law_mul" "_law_mul" mL t.a_Q35 t.d_Q35
 b_Q35:bi K t.d_Q35 ["_law_one_here", "_law_other"] []
 m_Q35:mg "_law_mul" = some (.ref t.a_Q35)
 F_Q30:Fun K "_law_less" "_law_less" mQ t.a_Q30 t.d_Q30
 b_Q30:bi K t.d_Q30 ["_law_one_here", "_law_other"] []
 m_Q30:mg "_law_less" = some (.ref t.a_Q30)
 F_Q36:Fun K "_law_sum" "_law_sum" mK t.a_Q36 t.d_Q36
 b_Q36:bi K t.d_Q36 ["_law_some"] []
 m_Q36:mg "_law_sum" = some (.ref t.a_Q36)
 F_Q17:Fun K "_law_works" "_law_works" m5 t.a_Q17 t.d_Q17
 b_Q17:bi K t.d_Q17 ["_law_tape_here", "_law_many"] []
 m_Q17:mg "_law_works" = some (.ref t.a_Q17)
 F_Q18:Fun K "_law_units" "_law_units" m4 t.a_Q18 t.d_Q18
 b_Q18:bi K t.d_Q18 ["_law_works_here"] []
 m_Q18:mg "_law_units" = some (.ref t.a_Q18)
 F_Q9:Fun K "_law_tightest" "_law_tightest" uH t.a_Q9 t.d_Q9
 b_Q9:bi K t.d_Q9 ["_law_works_here", "_law_left"] []
 m_Q9:mg "_law_tightest" = some (.ref t.a_Q9)
 F_Q13:Fun K "_law_layers" "_law_layers" m9 t.a_Q13 t.d_Q13
 b_Q13:bi K t.d_Q13 ["_law_works_here"] []
 m_Q13:mg "_law_layers" = some (.ref t.a_Q13)
 F_Q31:Fun K "_law_pace" "_law_pace" mP t.a_Q31 t.d_Q31
 b_Q31:bi K t.d_Q31 ["_law_works_here", "_law_layer"] []
 m_Q31:mg "_law_pace" = some (.ref t.a_Q31)
 F_Q1:Fun K "_law_rising_tuple" "_law_rising_tuple" uP t.a_Q1 t.d_Q1
 b_Q1:bi K t.d_Q1 ["_law_thing", "_law_most"] []
 m_Q1:mg "_law_rising_tuple" = some (.ref t.a_Q1)
 F_Q19:Fun K "_law_asked" "_law_asked" mZ t.a_Q19 t.d_Q19
 b_Q19:bi K t.d_Q19 ["_law_works_here", "_law_thing"] []
 m_Q19:mg "_law_asked" = some (.ref t.a_Q19)
 F_Q37:Fun K "_law_one" "_law_one" mJ t.a_Q37 t.d_Q37
 b_Q37:bi K t.d_Q37 ["_law_some"] []
 m_Q37:mg "_law_one" = some (.ref t.a_Q37)
 F_Q14:Fun K "_law_papers" "_law_papers" m8 t.a_Q14 t.d_Q14
 b_Q14:bi K t.d_Q14 ["_law_tape_here", "_law_works_here"] []
 m_Q14:mg "_law_papers" = some (.ref t.a_Q14)
 F_Q20:Fun K "_law_marks" "_law_marks" mY t.a_Q20 t.d_Q20
 b_Q20:bi K t.d_Q20 ["_law_e"] []
 m_Q20:mg "_law_marks" = some (.ref t.a_Q20)
 F_Q7:Fun K "_law_bent_pair" "_law_bent_pair" uJ t.a_Q7 t.d_Q7
 b_Q7:bi K t.d_Q7 ["_law_tape_here", "_law_works_here", "_law_pair"] []
 m_Q7:mg "_law_bent_pair" = some (.ref t.a_Q7)
 F_Q32:Fun K "_law_bent" "_law_bent" mO t.a_Q32 t.d_Q32
 b_Q32:bi K t.d_Q32 ["_law_tape_here", "_law_works_here", "_law_paper"] []
 m_Q32:mg "_law_bent" = some (.ref t.a_Q32)
 F_Q21:Fun K "_law_tried" "_law_tried" mX t.a_Q21 t.d_Q21
 b_Q21:bi K t.d_Q21 ["_law_works_here", "_law_thing"] []
 m_Q21:mg "_law_tried" = some (.ref t.a_Q21)
 F_Q22:Fun K "_law_right" "_law_right" mW t.a_Q22 t.d_Q22
 b_Q22:bi K t.d_Q22 ["_law_works_here", "_law_thing"] []
 m_Q22:mg "_law_right" = some (.ref t.a_Q22)
 F_Q52:Fun K "law" "law" iW t.a_Q52 t.d_Q52
 b_Q52:bi K t.d_Q52 ["_law_script"] []
 m_Q52:mg "law" = some (.ref t.a_Q52)
 m_NOUGHT:mg "NOUGHT" = some (.ref t.c_NOUGHT)
 q_NOUGHT:∀ H,aZ K H t.c_NOUGHT [.int (0),.int (1)]
 m_TURNS:mg "TURNS" = some (.int (24) t.k_TURNS)
 X_Q23:XC K t.c_Q23 t.a_Q23 (.ref t.c_base :: kl)
 F_Q23:Fun K "__init__" "NoStretch.__init__" iX t.a_Q23 t.d_Q23
 b_Q23:bi K t.d_Q23 ["self", "word", "number"] []
 m_Q23:mg "NoStretch" = some (.ref t.c_Q23)
 n_Q23_word:eP K t.c_Q23 "word"
 n_Q23_number:eP K t.c_Q23 "number"
 g_Q23:sU K t.c_Q23
 m_Q24:mg "PaceError" = some (.ref t.c_Q24)
 m_Q38:mg "NoLeast" = some (.ref t.c_Q38)
 m_Q44:mg "NoMuch" = some (.ref t.c_Q44)
 m_Q45:mg "NoPlan" = some (.ref t.c_Q45)
 m_Q39:mg "NoPrice" = some (.ref t.c_Q39)
 m_Q46:mg "NoRoom" = some (.ref t.c_Q46)
 m_Q40:mg "NoSheet" = some (.ref t.c_Q40)
 m_Q41:mg "NoSpeed" = some (.ref t.c_Q41)
 m_Q42:mg "NoRatio" = some (.ref t.c_Q42)
 x_catch:PySem.W.exmOne K (.ref t.c_Q23) (.ref t.c_Q24)=some true
 y_self:PySem.W.kitOne K (.ref t.c_Q23) (.ref t.c_Q23)=some true
 y_base:PySem.W.kitOne K (.ref t.c_Q23) (.ref t.c_Q24)=some true
 y_val:PySem.W.kitOne K (.ref t.c_Q23) (.type "ValueError")=some true
 y_not:PySem.W.kitAny K (.ref t.c_Q23) [.ref t.c_Q38,.ref t.c_Q44,.ref t.c_Q45,.ref t.c_Q39,.ref t.c_Q46,.ref t.c_Q40,.ref t.c_Q41]=some false
 z_ValueError:mg "ValueError" = none
 z_abs:mg "abs" = none
 z_all:mg "all" = none
 z_any:mg "any" = none
 z_bool:mg "bool" = none
 z_enumerate:mg "enumerate" = none
 z_int:mg "int" = none
 z_isinstance:mg "isinstance" = none
 z_len:mg "len" = none
 z_list:mg "list" = none
 z_range:mg "range" = none
 z_repr:mg "repr" = none
 z_set:mg "set" = none
 z_sorted:mg "sorted" = none
 z_str:mg "str" = none
 z_sum:mg "sum" = none
 z_tuple:mg "tuple" = none
abbrev qa:=vZ
abbrev qf:=v2
def ie (_:Fg):Sp:=fun vs H Q _=>∃ a b:Int,vs=[.int a,.int b]/\Q (.int (Int.gcd a b:Nat)) H
def va (H:Hp) (Q:VK) (r:R):Prop:=∀ p,H p=none->Q (.ref p) (upd H p (.tup [.int r.1,.int r.2]))
def Gp (K:Fg) (H:Hp) (Q:VK) (r:R):Prop:=∀ (v:V) (H':Hp),aw H H'->RV K H' v r->Q v H'
def v1 (_:Fg):Sp:=fun vs H Q _=>∃ a b:Int,vs=[.int a,.int b]/\b≠0/\b.natAbs < 2 ^ 4000/\va H Q (j9 a b)
def tF (K:Fg):Sp:=fun vs H Q _=>∃ (v w:V) (r q:R) (n m:Nat),vs=[v,w]/\RV K H v r/\RV K H w q/\Wf n r/\Wf m q/\n+m+1≤3000/\va H Q (de r q)
def pZ (K:Fg):Sp:=fun vs H Q _=>∃ (v w:V) (r q:R) (n m:Nat),vs=[v,w]/\RV K H v r/\RV K H w q/\Wf n r/\Wf m q/\n+m+1≤3000/\va H Q (eB r q)
def HZ (K:Fg) (H:Hp) (a:Addr) (xs:List V):Prop:=bj K H a xs∨aZ K H a xs
def vY (K:Fg):Sp:=fun vs H Q _=>∃ (a:Addr) (xs:List V) (rs:List R) (n D:Nat),vs=[.ref a]/\HZ K H a xs/\Fy K H xs rs/\(∀ r∈rs,Wf n r/\r.2∣(D:Int))/\0 < D/\D < 2 ^ n/\rs.length≤64/\n≤900/\∀ (v':V) (H':Hp),aw H H'->RV K H' v' (ge rs)->Q v' H'
theorem gJ {a g:Int} (hg:0 < g) (h:a.natAbs < 2 ^ 4000):(a / g).natAbs < 2 ^ 4000:=Nat.lt_of_le_of_lt (fu a hg) h
theorem lC {a b:Int} (hb:0 < b) (h:b.natAbs < 2 ^ 4000):((Int.gcd a b:Nat):Int).natAbs < 2 ^ 4000:=by
 have z:Int.gcd a b≤b.natAbs:=Nat.le_of_dvd (by omega) (by have:=Int.gcd_dvd_right a b;exact Int.natAbs_dvd_natAbs.mpr this)
 have e:((Int.gcd a b:Nat):Int).natAbs=Int.gcd a b:=Int.natAbs_natCast _
 omega
theorem bI {i:Int} {n:Nat} (h:i.natAbs < 2 ^ n) (hn:n≤4000):i.natAbs < 2 ^ 4000:=Nat.lt_of_lt_of_le h (Nat.pow_le_pow_right (by decide) hn)
def qd (_:Fg):Sp:=fun vs H Q _=>∃ a b:Int,vs=[.int a,.int b]/\0 < b/\b.natAbs < 2 ^ 4000/\va H Q (fe a b)
abbrev rH:=tF
abbrev rG:=pZ
def rE (K:Fg):Sp:=fun vs H Q _=>∃ (a:Addr) (xs:List V) (rs:List R),vs=[.ref a]/\bj K H a xs/\cL (RV K H) xs rs/\(∀ r∈rs,Wf 4 r)/\rs.length≤64/\∀ (v':V) (H':Hp),aw H H'->RV K H' v' (ge rs)->Q v' H'
theorem Cg {m:Nat} (h:0 < m) (h':m≤25):Wf 5 ((1,(m:Int)):R):=⟨by show (0:Int) < m;omega,by show (1:Int).natAbs < 2 ^ 5;decide,by show ((m:Int)).natAbs < 32;omega,by simp⟩
theorem Ai {K:Fg} {H:Hp} {xs:List V} {rs:List R} (h:cL (RV K H) xs rs):Fy K H xs rs:=⟨h.len,fun i x r hx hr=>by obtain⟨d,hd,p⟩:=h.at hx;rw [hr] at hd;cases hd;exact p⟩
abbrev Wk:=Nat×Nat×R
def Am (K:Fg) (H:Hp) (v:V) (w:Wk):Prop:=∃ p x,v=.ref p/\aZ K H p [.int w.1,.int w.2.1,x]/\RV K H x w.2.2
theorem Am.mono {K:Fg} {H H':Hp} {v:V} {w:Wk} (h:Am K H v w) (t:bn K H H'):Am K H' v w:=let ⟨p,x,e,s,r⟩:=h;⟨p,x,e,t _ _ s,r.mono t⟩
instance:gQ Am:=⟨fun t q=>q.mono t⟩
structure Dt (r:R):Prop where
 top:1≤r.1
 top':r.1≤12
 bot:1≤r.2
 bot':r.2≤7
 dvd:r.2∣84
 wf:Wf 4 r
structure eM (w:Wk):Prop where
 le:w.1≤w.2.1
 lt:w.2.1 < 24
 am:Dt w.2.2
def fA (K:Fg) (H:Hp) (v:V) (ws:List Wk):Prop:=∃ p xs,v=.ref p/\aZ K H p xs/\cL (Am K H) xs ws
theorem fA.mono {K:Fg} {H H':Hp} {v:V} {ws:List Wk} (h:fA K H v ws) (t:bn K H H'):fA K H' v ws:=let ⟨p,xs,e,s,a⟩:=h;⟨p,xs,e,t _ _ s,a.mono fun _ _ q=>q.mono t⟩
def au (ls:List Nat):List V:=ls.map fun n:Nat=>V.int n
theorem Ah {a b:Int} (h1:1≤a) (h2:a≤12) (h3:1≤b) (h4:b≤7) (h5:b∣84):Dt (fe a b):=by
 have g0:0 < (Int.gcd a b:Int):=bY (by omega)
 have da:(Int.gcd a b:Int)∣a:=Int.gcd_dvd_left a b
 have db:(Int.gcd a b:Int)∣b:=Int.gcd_dvd_right a b
 have p1:0 < a / (Int.gcd a b:Int):=Int.ediv_pos_of_pos_of_dvd (by omega) (Int.le_of_lt g0) da
 have p2:0 < b / (Int.gcd a b:Int):=Int.ediv_pos_of_pos_of_dvd (by omega) (Int.le_of_lt g0) db
 have q1:a / (Int.gcd a b:Int)≤a:=Int.ediv_le_self _ (by omega)
 have q2:b / (Int.gcd a b:Int)≤b:=Int.ediv_le_self _ (by omega)
 refine⟨p1,by show a / (Int.gcd a b:Int)≤12;omega,p2,by show b / (Int.gcd a b:Int)≤7;omega,Int.dvd_trans ?_ h5,kX (by omega) (by show a.natAbs < 16;omega) (by show b.natAbs < 16;omega)⟩
 exact⟨(Int.gcd a b:Int),(Int.ediv_mul_cancel db).symm⟩
def oj (K:Fg):Sp:=fun vs H Q _=>∃ (t s:Addr) (m:Nat),vs=[.ref t,.int m]/\bJ K H t s/\m≤64/\∀ (v:V) (ws:List Wk) (H':Hp),bB t H H'->bJ K H' t s->fA K H' v ws->ws.length=m->(∀ w∈ws,eM w)->Q v H'
def cr (ws:List Wk):List Int:=ws.map fun w=>w.2.2.1 * 84 / w.2.2.2
def wY (B:Int) (ws:List Wk):List Int:=ws.map fun w=>w.2.2.1 * (B / w.2.2.2)
def om (K:Fg):Sp:=fun vs H Q _=>∃ (v:V) (ws:List Wk),vs=[v]/\fA K H v ws/\ws.length≤64/\(∀ w∈ws,eM w)/\∀ (l:Addr) (H':Hp),aw H H'->H l=none->H' l=some (.lst ((cr ws).map V.int))->Q (.ref l) H'
def vX (K:Fg):Sp:=fun vs H Q _=>∃ (a:Addr) (xs:List V) (ws:List Wk),vs=[.ref a]/\bj K H a xs/\cL (RV K H) xs (ws.map fun w=>w.2.2)/\ws.length≤64/\(∀ w∈ws,eM w)/\∀ (l:Addr) (B:Int) (H':Hp),aw H H'->H l=none->0 < B->B∣84->(∀ w∈ws,w.2.2.2∣B)->H' l=some (.lst ((wY B ws).map V.int))->Q (.ref l) H'
def xK (w:Wk) (t:Nat):Bool:=decide (w.1≤t) && decide (t≤w.2.1)
def yJ (K:Fg):Sp:=fun vs H Q _=>∃ (v:V) (w:Wk) (t:Nat),vs=[v,.int t]/\Am K H v w/\Q (.bl (xK w t)) H
def ig (ls:List Nat) (w:Wk):List Nat:=(List.range ls.length).filter fun i=>xK w (ls.getD i 0)
def cq (ls:List Nat) (w:Wk):Wn:=match ig ls w with
 | []=>none
 | x :: r=>some (x,(x :: r).getLast (by simp))
def Dl (K:Fg) (H:Hp) (v:V):Wn->Prop
 | none=>v=.non
 | some q=>∃ p,v=.ref p/\aZ K H p [.int q.1,.int q.2]
def vE (K:Fg):Sp:=fun vs H Q _=>∃ (v:V) (q:Addr) (ws:List Wk) (ls:List Nat),vs=[v,.ref q]/\fA K H v ws/\ws.length≤64/\aZ K H q (au ls)/\ls.length≤24/\∀ (l:Addr) (xs:List V) (H':Hp),aw H H'->H l=none->H' l=some (.lst xs)->cL (Dl K H') xs (ws.map (cq ls))->Q (.ref l) H'
def Fc (K:Fg):Sp:=fun vs H Q _=>∃ (l:Addr) (xs:List V) (os:List Wn) (p:Pl),vs=[.ref l,.int p.1,.int p.2]/\bj K H l xs/\cL (Dl K H) xs os/\os.length≤64/\∀ (D:Addr) (H':Hp),aw H H'->H D=none->H' D=some (.lst (au (cw os p)))->Q (.ref D) H'
def lX (as:List Int) (i:Nat):Int:=as.getD i 0
theorem zN {os:List Wn} {as:List Int} (hb:∀ x∈as,0≤x/\x≤1008) (hn:os.length≤64) (q:Pl):0≤gB os (lX as) q/\gB os (lX as) q≤64512:=by
 have h0:∀ i,0≤lX as i/\lX as i≤1008:=fun i=>by
  unfold lX
  rw [List.getD_eq_getElem?_getD]
  cases e:as[i]? with
  | none=>exact⟨by decide,by decide⟩
  | some x=>exact hb x (List.mem_of_getElem? e)
 have key:∀ l:List Nat,0≤(l.map (lX as)).sum/\(l.map (lX as)).sum≤1008 * (l.length:Int):=by
  intro l
  induction l with
  | nil=>exact⟨by simp,by simp⟩
  | cons x l ih=>
   rw [List.map_cons,List.sum_cons,List.length_cons]
   have:=h0 x
   omega
 have k:=key (cw os q)
 have l:(cw os q).length≤os.length:=by
  unfold cw
  exact Nat.le_trans (List.length_filter_le _ _) (by rw [List.length_range];exact Nat.le_refl _)
 unfold gB
 omega
def Go (K:Fg) (H:Hp) (S:Pl->Prop) (L:Pl->Int) (vb:Addr) (ld ln:Int):Prop:=(ld=-1/\ln=1/\∀ r,¬ S r)∨∃ q:Pl,aZ K H vb [.int q.1,.int q.2]/\ld=L q/\ln=dg q/\pJ S L q
def rD (K:Fg):Sp:=fun vs H Q _=>∃ (l a:Addr) (xs:List V) (os:List Wn) (as:List Int) (n:Nat),vs=[.ref l,.ref a,.int n]/\bj K H l xs/\cL (Dl K H) xs os/\os.length≤64/\bj K H a (as.map V.int)/\as.length=os.length/\(∀ x∈as,0≤x/\x≤1008)/\1≤n/\n≤24/\∀ (p:Addr) (q:Pl) (H':Hp),aw H H'->aZ K H' p [.int q.1,.int q.2]->pJ (jX n) (gB os (lX as)) q->Q (.ref p) H'
def ii (ls:List Nat):PyData:=.tuple (ls.map fun n:Nat=>PyData.int n)
def F7 (ls:List Nat) (os:List Wn) (q:Pl):PyData:=.tuple [ii ((ls.drop q.1).take (q.2+1 - q.1)),ii (cw os q)]
theorem pQ {ws:List Wk} (ok:∀ w∈ws,eM w):∀ x∈cr ws,0≤x/\x≤1008:=by
 intro x hx
 obtain⟨w,hw,rfl⟩:=List.mem_map.mp hx
 have o:=(ok w hw).am
 have t1:=o.top
 have t2:=o.top'
 refine⟨Int.ediv_nonneg (by omega) (by have:=o.bot;omega),?_⟩
 have:=Int.ediv_le_self (a:=w.2.2.1 * 84) w.2.2.2 (by omega)
 omega
theorem Ac {ls:List Nat} {a b:Nat} (h1:a≤b) (h2:b≤ls.length):dY (au ls) (some (a:Int)) (some (b:Int))=au ((ls.drop a).take (b - a)):=by
 unfold dY au
 rw [HT.sIx_nat,HT.sIx_nat,List.length_map,show min b ls.length=b from Nat.min_eq_left h2,show min a ls.length=a from Nat.min_eq_left (by omega),List.map_take,List.map_drop]
theorem qR {K:Fg} {H:Hp} {p:Addr} {ls:List Nat} (h:aZ K H p (au ls)):bu K H (.ref p) (ii ls):=by
 refine .tup h ?_
 clear h
 unfold au
 induction ls with
 | nil=>exact .nil
 | cons x r ih=>exact .cons (.int _) ih
def gR (K:Fg) (H:Hp) (v:V) (y:List Nat×List Nat):Prop:=∃ p a b,v=.ref p/\aZ K H p [.ref a,.ref b]/\aZ K H a (au y.1)/\aZ K H b (au y.2)
theorem gR.mono {K:Fg} {H H':Hp} {v:V} {y:List Nat×List Nat} (h:gR K H v y) (t:bn K H H'):gR K H' v y:=let ⟨p,a,b,e,h1,h2,h3⟩:=h;⟨p,a,b,e,t _ _ h1,t _ _ h2,t _ _ h3⟩
instance:gQ gR:=⟨fun t q=>q.mono t⟩
def fw (ls:List Nat) (q:Pl):List Nat:=(ls.drop q.1).take (q.2+1 - q.1)
def dF (ls:List Nat) (q:Pl):List Nat:=ls.filter fun t=>!(fw ls q).contains t
def lS (ws:List Wk) (ls:List Nat):Nat:=ws.countP fun w=>(cq ls w).isSome
theorem ka {ls:List Nat} {w:Wk} {i:Nat}:i∈ig ls w↔i < ls.length/\xK w (ls.getD i 0)=true:=by
 unfold ig
 rw [List.mem_filter,List.mem_range]
theorem sW {ls:List Nat} {w:Wk} (h:ig ls w=[]):cq ls w=none:=by unfold cq;rw [h]
theorem pK {ls:List Nat} {w:Wk} {x:Nat} {r:List Nat} (h:ig ls w=x :: r):cq ls w=some (x,(x :: r).getLast (by simp)):=by unfold cq;rw [h]
theorem kg {ls:List Nat} {w:Wk}:(cq ls w).isSome=true↔∃ t∈ls,xK w t=true:=by
 cases c:ig ls w with
 | nil=>
  rw [sW c]
  refine⟨fun h=>(by cases h),fun⟨t,ht,e⟩=>?_⟩
  obtain⟨i,hi,rfl⟩:=List.mem_iff_getElem.mp ht
  have m:i∈ig ls w:=ka.mpr ⟨hi,by rw [aN 0 (List.getElem?_eq_getElem hi)];exact e⟩
  rw [c] at m
  cases m
 | cons x r=>
  rw [pK c]
  refine⟨fun _=>?_,fun _=>rfl⟩
  have m:x∈ig ls w:=by rw [c];exact List.mem_cons_self
  obtain⟨hi,e⟩:=ka.mp m
  rw [aN 0 (List.getElem?_eq_getElem hi)] at e
  exact⟨_,List.getElem_mem hi,e⟩
theorem r8 (ls:List Nat) (w:Wk):(ig ls w).Pairwise (· < ·):=List.Pairwise.filter _ List.pairwise_lt_range
theorem sX {ls:List Nat} {w:Wk} {a b:Nat} (h:cq ls w=some (a,b)):a∈ig ls w/\b∈ig ls w/\∀ i∈ig ls w,a≤i/\i≤b:=by
 cases c:ig ls w with
 | nil=>rw [sW c] at h;cases h
 | cons x r=>
  rw [pK c] at h
  have srt:=r8 ls w
  rw [c] at srt
  injection h with h
  injection h with h1 h2
  subst h1 h2
  refine⟨List.mem_cons_self,List.getLast_mem _,fun i hi=>⟨?_,?_⟩⟩
  ·rcases List.mem_cons.mp hi with z | z
   ·omega
   ·have:=(List.pairwise_cons.mp srt).1 i z
    omega
  ·have e:=List.dropLast_concat_getLast (show (x :: r)≠[] by simp)
   rw [← e] at srt hi
   rcases List.mem_append.mp hi with z | z
   ·have:=(List.pairwise_append.mp srt).2.2 i z _ (List.mem_singleton.mpr rfl)
    omega
   ·have:=List.mem_singleton.mp z
    omega
theorem CJ {ls:List Nat} (nd:ls.Nodup) {i j:Nat} {hi:i < ls.length} {hj:j < ls.length} (e:ls[i]=ls[j]):i=j:=by
 have h:=List.pairwise_iff_getElem.mp nd
 rcases Nat.lt_trichotomy i j with z | z | z
 ·exact absurd e (h i j hi hj z)
 ·exact z
 ·exact absurd e.symm (h j i hj hi z)
theorem tT {ls:List Nat} {p:Pl} (nd:ls.Nodup) (hp:jX ls.length p) {i:Nat} (hi:i < ls.length):ls[i]∈fw ls p↔p.1≤i/\i≤p.2:=by
 have h1:=hp.1
 have h2:=hp.2
 unfold fw
 constructor
 ·intro h
  obtain⟨j,hj,e⟩:=List.mem_iff_getElem.mp h
  rw [List.length_take,List.length_drop] at hj
  rw [List.getElem_take,List.getElem_drop] at e
  have:=CJ nd e
  omega
 ·rintro⟨a,b⟩
  refine List.mem_iff_getElem.mpr ⟨i - p.1,by rw [List.length_take,List.length_drop];omega,?_⟩
  rw [List.getElem_take,List.getElem_drop]
  congr 1
  omega
theorem uS {ls:List Nat} {p:Pl} {w:Wk} (nd:ls.Nodup) (hp:jX ls.length p):(cq (dF ls p) w).isSome=((cq ls w).isSome && !fL p.1 p.2 (cq ls w)):=by
 have key:(cq (dF ls p) w).isSome=true↔∃ i,∃ hi:i < ls.length,xK w ls[i]=true/\¬ (p.1≤i/\i≤p.2):=by
  rw [kg]
  constructor
  ·rintro⟨t,ht,e⟩
   unfold dF at ht
   obtain⟨m,c⟩:=List.mem_filter.mp ht
   obtain⟨i,hi,rfl⟩:=List.mem_iff_getElem.mp m
   refine⟨i,hi,e,fun z=>?_⟩
   rw [List.contains_iff_mem.mpr ((tT nd hp hi).mpr z)] at c
   cases c
  ·rintro⟨i,hi,e,n⟩
   refine⟨ls[i],List.mem_filter.mpr ⟨List.getElem_mem hi,?_⟩,e⟩
   cases c:(fw ls p).contains ls[i] with
   | false=>rfl
   | true=>exact absurd ((tT nd hp hi).mp (List.contains_iff_mem.mp c)) n
 have pm:∀ i,i∈ig ls w↔∃ hi:i < ls.length,xK w ls[i]=true:=fun i=>by
  rw [ka]
  constructor
  ·rintro⟨hi,e⟩
   rw [aN 0 (List.getElem?_eq_getElem hi)] at e
   exact⟨hi,e⟩
  ·rintro⟨hi,e⟩
   exact⟨hi,by rw [aN 0 (List.getElem?_eq_getElem hi)];exact e⟩
 cases c:cq ls w with
 | none=>
  have n:¬ (cq (dF ls p) w).isSome=true:=fun h=>by
   obtain⟨i,hi,e,_⟩:=key.mp h
   have:=kg.mpr ⟨ls[i],List.getElem_mem hi,e⟩
   rw [c] at this
   cases this
  simpa using n
 | some q=>
  obtain⟨a,b⟩:=q
  obtain⟨m1,m2,bd⟩:=sX c
  show (cq (dF ls p) w).isSome=(true && !(decide (p.1≤a) && decide (b≤p.2)))
  by_cases h:p.1≤a/\b≤p.2
  ·rw [decide_eq_true h.1,decide_eq_true h.2]
   have n:¬ (cq (dF ls p) w).isSome=true:=fun h'=>by
    obtain⟨i,hi,e,n⟩:=key.mp h'
    have:=bd i ((pm i).mpr ⟨hi,e⟩)
    exact n (by omega)
   simpa using n
  ·have y:(cq (dF ls p) w).isSome=true:=key.mpr (by
    by_cases z:p.1≤a
    ·obtain⟨hi,e⟩:=(pm b).mp m2
     exact⟨b,hi,e,by omega⟩
    ·obtain⟨hi,e⟩:=(pm a).mp m1
     exact⟨a,hi,e,by omega⟩)
   rw [y]
   by_cases z:p.1≤a
   ·rw [decide_eq_false (show ¬ b≤p.2 from fun q=>h ⟨z,q⟩),Bool.and_false];rfl
   ·rw [decide_eq_false z];rfl
theorem qI (os:List Wn) (p:Pl):(cw os p).length=os.countP (fL p.1 p.2):=by
 have:=congrArg List.length (gO (none:Wn) (fL p.1 p.2) id os)
 rw [List.length_map,List.length_map] at this
 rw [List.countP_eq_length_filter]
 exact this
theorem tR {ws:List Wk} {ls:List Nat} {p:Pl} (nd:ls.Nodup) (hp:jX ls.length p):lS ws (dF ls p)+(cw (ws.map (cq ls)) p).length=lS ws ls:=by
 rw [qI,List.countP_map]
 unfold lS
 induction ws with
 | nil=>rfl
 | cons w ws ih=>
  rw [List.countP_cons,List.countP_cons,List.countP_cons,uS nd hp,show (fL p.1 p.2 ∘ cq ls) w=fL p.1 p.2 (cq ls w) from rfl]
  cases c:cq ls w with
  | none=>
   have:fL p.1 p.2 none=false:=rfl
   rw [this]
   simp only [Option.isSome_none,Bool.false_and,Bool.false_eq_true,if_false,Nat.add_zero]
   exact ih
  | some q=>
   cases fL p.1 p.2 (some q) with
   | true=>
    simp only [Option.isSome_some,Bool.not_true,Bool.and_false,Bool.false_eq_true,if_false,if_true,Nat.add_zero]
    omega
   | false=>
    simp only [Option.isSome_some,Bool.not_false,Bool.and_true,Bool.false_eq_true,if_false,if_true,Nat.add_zero]
    omega
theorem tJ {ls:List Nat} (nd:ls.Nodup) (p:Pl):(dF ls p).Nodup:=List.Pairwise.filter _ nd
theorem xD {A:Nat->Int} (h:∀ i,0≤A i):∀ {l:List Nat} {i:Nat},i∈l->A i≤(l.map A).sum
 | x :: l,i,hi=>by
  rw [List.map_cons,List.sum_cons]
  rcases List.mem_cons.mp hi with z | z
  ·subst z
   have:=kq h l
   omega
  ·have:=xD h z
   have:=h x
   omega
theorem vM {ws:List Wk} (ok:∀ w∈ws,eM w) (i:Nat):0≤lX (cr ws) i:=by
 unfold lX
 rw [List.getD_eq_getElem?_getD]
 cases e:(cr ws)[i]? with
 | none=>decide
 | some x=>exact (pQ ok x (List.mem_of_getElem? e)).1
theorem zM {ws:List Wk} {ls:List Nat} (ok:∀ w∈ws,eM w) (h:∀ r,jX ls.length r->gB (ws.map (cq ls)) (lX (cr ws)) r=0):lS ws ls=0:=by
 refine List.countP_eq_zero.mpr fun w hw n=>?_
 obtain⟨q,hq⟩:=Option.isSome_iff_exists.mp n
 obtain⟨a,b⟩:=q
 obtain⟨m1,m2,bd⟩:=sX hq
 have sec:jX ls.length (a,b):=⟨(bd b m2).1,(ka.mp m2).1⟩
 obtain⟨i,hi,rfl⟩:=List.mem_iff_getElem.mp hw
 have mi:i∈cw (ws.map (cq ls)) (a,b):=by
  unfold cw
  refine List.mem_filter.mpr ⟨List.mem_range.mpr (by rw [List.length_map];exact hi),?_⟩
  rw [aN none (show (ws.map (cq ls))[i]?=some (some (a,b)) by rw [List.getElem?_map,List.getElem?_eq_getElem hi];exact congrArg some hq)]
  show (decide (a≤a) && decide (b≤b))=true
  simp
 have l:=xD (vM ok) mi
 have z:=h _ sec
 unfold gB at z
 rw [z] at l
 have o:=(ok _ hw).am
 have eu:lX (cr ws) i=ws[i].2.2.1 * 84 / ws[i].2.2.2:=aN 0 (by unfold cr;rw [List.getElem?_map,List.getElem?_eq_getElem hi];rfl)
 rw [eu] at l
 have t1:=o.top
 have b1:=o.bot
 have b2:=o.bot'
 have:1≤ws[i].2.2.1 * 84 / ws[i].2.2.2:=(Int.le_ediv_iff_mul_le (by omega)).mpr (by omega)
 omega
def yD (ws:List Wk) (ls:List Nat) (p:Pl):Prop:=pJ (jX ls.length) (gB (ws.map (cq ls)) (lX (cr ws))) p/\0 < gB (ws.map (cq ls)) (lX (cr ws)) p
theorem yD.held {ws:List Wk} {ls:List Nat} {p:Pl} (h:yD ws ls p):0 < (cw (ws.map (cq ls)) p).length:=by
 have:=h.2
 unfold gB at this
 cases c:cw (ws.map (cq ls)) p with
 | nil=>rw [c] at this;exact absurd this (by simp)
 | cons x r=>exact Nat.succ_pos _
abbrev Ly:=List Nat×List Nat
def pI (ws:List Wk) (ls:List Nat) (p:Pl):Ly:=(fw ls p,cw (ws.map (cq ls)) p)
inductive re (ws:List Wk):List Nat->List Ly->Prop where
 | nil {ls:List Nat} (h:lS ws ls=0):re ws ls []
 | cons {ls:List Nat} {p:Pl} {r:List Ly} (h:yD ws ls p) (t:re ws (dF ls p) r):re ws ls (pI ws ls p :: r)
structure dH (n:Nat) (y:Ly):Prop where
 pos:0 < y.1.length
 few:y.1.length≤25
 lt:∀ t∈y.1,t < 24
 num:∀ i∈y.2,i < n
 len:y.2.length≤n
theorem CN {ws:List Wk} {ls:List Nat} {p:Pl} (hp:jX ls.length p) (hl:ls.length≤24) (hb:∀ t∈ls,t < 24):dH ws.length (pI ws ls p):=by
 have h1:=hp.1
 have h2:=hp.2
 have e:(fw ls p).length=min (p.2+1 - p.1) (ls.length - p.1):=by unfold fw;rw [List.length_take,List.length_drop]
 refine⟨by show 0 < (fw ls p).length;omega,by show (fw ls p).length≤25;omega,fun t ht=>hb t (List.mem_of_mem_drop (List.mem_of_mem_take ht)),fun i hi=>?_,?_⟩
 ·have:i∈cw (ws.map (cq ls)) p:=hi
  unfold cw at this
  have:=List.mem_range.mp (List.mem_filter.mp this).1
  rw [List.length_map] at this
  exact this
 ·show (cw (ws.map (cq ls)) p).length≤ws.length
  rw [qI]
  exact Nat.le_trans List.countP_le_length (by rw [List.length_map];exact Nat.le_refl _)
def AB (K:Fg):Sp:=fun vs H Q _=>∃ (v:V) (q:Addr) (ws:List Wk) (ls:List Nat),vs=[v,.ref q]/\fA K H v ws/\ws.length≤64/\(∀ w∈ws,eM w)/\aZ K H q (au ls)/\1≤ls.length/\ls.length≤24/\∀ (x:V) (B:Int) (p:Pl) (H':Hp),aw H H'->0 < B->B∣84->(∀ w∈ws,w.2.2.2∣B)->pJ (jX ls.length) (gB (ws.map (cq ls)) (lX (wY B ws))) p->gR K H' x (pI ws ls p)->Q x H'
theorem Af {n i e:Nat} {S S':Pl->Prop} {L:Pl->Int} (st:∀ r,S' r↔S r∨r=(i,e)) (sec:∀ r,S' r->jX n r) (z:∀ r,S r->L r=0) (c:0 < L (i,e)):pJ S' L (i,e):=by
 refine⟨(st _).mpr (.inr rfl),fun r hr=>?_⟩
 rcases (st r).mp hr with h | h
 ·rw [z r h,Int.zero_mul]
  exact .inl (Int.mul_pos c (sec r hr).pos)
 ·rw [h];exact .inr ⟨rfl,.inr ⟨rfl,Nat.le_refl _⟩⟩
theorem yj {L:Int} {ln mn len:Int} (h0:0≤L) (hm:0 < mn) (hl:0 < len) (c:mn * len≤L * ln):0 < L:=by
 have:=Int.mul_pos hm hl
 by_cases e:L=0
 ·rw [e,Int.zero_mul] at c;omega
 ·omega
def Fx (K:Fg) (H:Hp) (v:V) (s:Nat×Nat×Nat):Prop:=∃ p,v=.ref p/\aZ K H p [.int s.1,.int s.2.1,.int s.2.2]
theorem Fx.mono {K:Fg} {H H':Hp} {v:V} {s:Nat×Nat×Nat} (h:Fx K H v s) (t:bn K H H'):Fx K H' v s:=let ⟨p,e,q⟩:=h;⟨p,e,t _ _ q⟩
def vF (os:List Wn) (i:Nat):List (Nat×Nat×Nat):=(List.range i).filterMap fun j=>(os.getD j none).map fun q=>(q.1,q.2,j)
theorem tG (os:List Wn) (i:Nat):(vF os i).length≤i:=by
 have:=List.length_filterMap_le (fun j=>(os.getD j none).map fun q=>(q.1,q.2,j)) (List.range i)
 rw [List.length_range] at this
 exact this
theorem v4 {os:List Wn} {i:Nat} (h:os.getD i none=none):vF os (i+1)=vF os i:=by
 unfold vF
 rw [List.range_succ,List.filterMap_append,List.filterMap_cons,h]
 simp
theorem v3 {os:List Wn} {i:Nat} {q:Nat×Nat} (h:os.getD i none=some q):vF os (i+1)=vF os i++[(q.1,q.2,i)]:=by
 unfold vF
 rw [List.range_succ,List.filterMap_append,List.filterMap_cons,h]
 simp
def qH (p:Pl) (s:Nat×Nat×Nat):Bool:=decide (p.1≤s.1) && decide (s.2.1≤p.2)
theorem rJ (os:List Wn) (p:Pl):((vF os os.length).filter (qH p)).map (fun s=>s.2.2)=cw os p:=by
 unfold vF cw
 generalize List.range os.length=l
 induction l with
 | nil=>rfl
 | cons j l ih=>
  rw [List.filterMap_cons,List.filter_cons]
  cases e:os.getD j none with
  | none=>
   simp only [Option.map_none,fL,Bool.false_eq_true,if_false]
   exact ih
  | some q=>
   simp only [Option.map_some,List.filter_cons]
   show (if qH p (q.1,q.2,j)=true then _ else _:List (Nat×Nat×Nat)).map _=if fL p.1 p.2 (some q)=true then _ else _
   have hb:qH p (q.1,q.2,j)=fL p.1 p.2 (some q):=rfl
   rw [hb]
   cases fL p.1 p.2 (some q) with
   | true=>simp only [if_true,List.map_cons];rw [ih]
   | false=>simp only [Bool.false_eq_true,if_false];exact ih
def nZ (K:Fg) (H:Hp) (os:List Wn) (S:Pl->Prop) (L:Pl->Int) (pb:Addr):Prop:=∃ (mn ln bg:Int) (lb:Addr),aZ K H pb [.int mn,.int ln,.int bg,.ref lb]/\((mn=0/\ln=1/\bg=0/\∀ r,S r->L r=0)∨∃ q:Pl,0 < L q/\mn=L q/\ln=dg q/\bg=(q.1:Int)/\bj K H lb (au (cw os q))/\pJ S L q)
theorem nZ.mono {K:Fg} {H H':Hp} {os:List Wn} {S S':Pl->Prop} {L:Pl->Int} {pb:Addr} (h:nZ K H os S L pb) (s:aw H H') (e:∀ r,S' r↔S r):nZ K H' os S' L pb:=by
 obtain⟨mn,ln,bg,lb,hp,h⟩:=h
 refine⟨mn,ln,bg,lb,bn.same s _ _ hp,?_⟩
 rcases h with ⟨a,b,c,d⟩ | ⟨q,a,b,c,d,f,g⟩
 ·exact .inl ⟨a,b,c,fun r hr=>d r ((e r).mp hr)⟩
 ·exact .inr ⟨q,a,b,c,d,s.seq f,g.congr e⟩
def jT (K:Fg):Sp:=fun vs H Q _=>∃ (v:V) (q:Addr) (ws:List Wk) (ls:List Nat),vs=[v,.ref q]/\fA K H v ws/\ws.length≤64/\(∀ w∈ws,eM w)/\bj K H q (au ls)/\ls.length≤24/\(∀ H',aw H H'->lS ws ls=0->Q .non H')/\∀ (x:V) (p:Pl) (H':Hp),x≠.non->aw H H'->yD ws ls p->gR K H' x (pI ws ls p)->Q x H'
mutual
def DO:PyData->Bool
 | .int _=>true
 | .str _=>true
 | .bool _=>true
 | .none=>true
 | .tuple ds=>decide (ds.length≤1000) && mz ds
 | _=>false
def mz:List PyData->Bool
 | []=>true
 | d :: ds=>DO d && mz ds
end
theorem qj:∀ {ds:List PyData} {i:Nat} {d:PyData},mz ds=true->ds[i]?=some d->DO d=true
 | e :: ds,0,d,h,q=>by
  rw [List.getElem?_cons_zero] at q
  cases q
  have h':(DO e && mz ds)=true:=h
  rw [Bool.and_eq_true] at h'
  exact h'.1
 | e :: ds,i+1,d,h,q=>by
  rw [List.getElem?_cons_succ] at q
  have h':(DO e && mz ds)=true:=h
  rw [Bool.and_eq_true] at h'
  exact qj h'.2 q
theorem jO:∀ {ds:List PyData} {i:Nat} {d:PyData},ds[i]?=some d->d.depth≤PyData.depthAll ds
 | e :: ds,0,d,q=>by
  rw [List.getElem?_cons_zero] at q
  cases q
  exact Nat.le_max_left _ _
 | e :: ds,i+1,d,q=>by
  rw [List.getElem?_cons_succ] at q
  exact Nat.le_trans (jO q) (Nat.le_max_right _ _)
theorem iO {K:Fg} {H:Hp}:∀ {xs:List V} {ds:List PyData},aq K H xs ds->∀ {i:Nat} {d:PyData},ds[i]?=some d->∃ x,xs[i]?=some x/\bu K H x d
 | _,_,.cons h _,0,d,e=>by
  rw [List.getElem?_cons_zero] at e
  cases e
  exact⟨_,rfl,h⟩
 | _,_,.cons _ t,i+1,d,e=>iO t (i:=i) (by rw [List.getElem?_cons_succ] at e;exact e)
 | _,_,.nil,_,_,e=>by cases e
theorem gK {K:Fg} {H:Hp}:∀ {xs:List V} {ds:List PyData},aq K H xs ds->xs.length=ds.length
 | _,_,.nil=>rfl
 | _,_,.cons _ t=>congrArg (·+1) (gK t)
theorem fh:cY "NoneType" "tuple" = some false:=by decide +kernel
theorem fK:cY "NoneType" "list" = some false:=by decide +kernel
theorem iy:cY "bool" "tuple" = some false:=by decide +kernel
theorem i8:cY "bool" "list" = some false:=by decide +kernel
theorem jN:cY "bool" "str" = some false:=by decide +kernel
theorem eg:cY "bool" "bool" = some true:=by decide +kernel
theorem i7:cY "int" "tuple" = some false:=by decide +kernel
theorem jM:cY "int" "list" = some false:=by decide +kernel
theorem lg:cY "int" "str" = some false:=by decide +kernel
theorem fg:cY "int" "bool" = some false:=by decide +kernel
theorem lh:cY "int" "int" = some true:=by decide +kernel
theorem i6:cY "str" "tuple" = some false:=by decide +kernel
theorem jL:cY "str" "list" = some false:=by decide +kernel
theorem fZ:cY "str" "str" = some true:=by decide +kernel
theorem eJ:cY "tuple" "tuple" = some true:=by decide +kernel
theorem ix:cY "tuple" "list" = some false:=by decide +kernel
def AC (k:Nat) (K:Fg):Sp:=fun vs H Q _=>∃ (v w:V) (d:PyData),vs=[v,w]/\bu K H v d/\bu K H w d/\d.depth≤k/\DO d=true/\∀ H',aw H H'->Q (.bl true) H'
abbrev uF:=AC 0
abbrev oy:=AC 1
theorem oE {i:Int} (h:i.natAbs < 2 ^ 100):Sh 0 2000 (.int i):=by
 refine⟨?_,rfl,Nat.le_refl _,Nat.le_trans (CQ h (by decide)) (by decide)⟩
 show decide (i.natAbs.log2 < 1920)=true
 refine decide_eq_true ?_
 by_cases z:i.natAbs=0
 ·rw [z];decide
 ·exact Nat.lt_of_lt_of_le ((Nat.log2_lt z).mpr h) (by decide)
def F6 (w:Wk):PyData:=.tuple [.int w.1,.int w.2.1,dR w.2.2]
def ye (ws:List Wk):PyData:=.tuple (ws.map F6)
theorem Am.deep {K:Fg} {H:Hp} {v:V} {w:Wk} (h:Am K H v w):bu K H v (F6 w):=by
 obtain⟨p,x,rfl,hS,rx⟩:=h
 exact .tup hS (.cons (.int _) (.cons (.int _) (.cons rx.deep .nil)))
theorem fA.deep {K:Fg} {H:Hp} {v:V} {ws:List Wk} (h:fA K H v ws):bu K H v (ye ws):=by
 obtain⟨p,xs,rfl,hS,al⟩:=h
 exact .tup hS (al.deep fun _ _ q=>q.deep)
theorem nC {n:Nat} (h:n < 24):((n:Int)).natAbs < 2 ^ 100:=by
 have:(2:Nat) ^ 100=1267650600228229401496703205376:=by decide
 omega
theorem Bi {w:Wk} (h:eM w):Sh 2 20000 (F6 w):=by
 have o:=h.am
 have big:(2:Nat) ^ 100=1267650600228229401496703205376:=by decide
 have l1:=h.le
 have l2:=h.lt
 have t1:=o.top
 have t2:=o.top'
 have b1:=o.bot
 have b2:=o.bot'
 refine Sh.tup (k:=1) (n:=6100) (m:=3) (fun d hd=>?_) (Nat.le_refl _) (by decide)
 simp only [List.mem_cons,List.not_mem_nil,or_false] at hd
 rcases hd with rfl | rfl | rfl
 ·exact (oE (nC (by omega))).mono (by decide) (by decide)
 ·exact (oE (nC (by omega))).mono (by decide) (by decide)
 ·refine Sh.tup (k:=0) (n:=2000) (m:=2) (fun d hd=>?_) (Nat.le_refl _) (by decide)
  simp only [List.mem_cons,List.not_mem_nil,or_false] at hd
  rcases hd with rfl | rfl
  ·exact oE (by omega)
  ·exact oE (by omega)
def uo (y:List Nat×List Nat):PyData:=.tuple [ii y.1,ii y.2]
theorem gR.deep {K:Fg} {H:Hp} {v:V} {y:List Nat×List Nat} (h:gR K H v y):bu K H v (uo y):=by
 obtain⟨p,a,b,rfl,h1,h2,h3⟩:=h
 exact .tup h1 (.cons (qR h2) (.cons (qR h3) .nil))
def rg:Wk:=(0,0,(0,1))
def jE (ws:List Wk) (y:List Nat×List Nat):List R:=y.2.map fun i=>(ws.getD i rg).2.2
def ku (ws:List Wk) (y:List Nat×List Nat):R:=eB (ge (jE ws y)) (1,(y.1.length:Int))
def FM (r:R) (ss:List R) (ts:List Nat):List R:=ts.foldl (fun s t=>s.set t r) ss
def DN (ws:List Wk) (lys:List (List Nat×List Nat)):List R:=lys.foldl (fun ss y=>FM (ku ws y) ss y.1) (List.replicate 24 (0,1))
theorem ym {ws:List Wk} {n:Nat} {y:List Nat×List Nat} (ok:∀ w∈ws,eM w) (h:dH ws.length y):∀ r∈jE ws y,Wf 4 r:=by
 intro r hr
 obtain⟨i,hi,rfl⟩:=List.mem_map.mp hr
 have hl:=h.num i hi
 rw [aN rg (List.getElem?_eq_getElem hl)]
 exact (ok _ (List.getElem_mem hl)).am.wf
theorem zI {ws:List Wk} (ok:∀ w∈ws,eM w):lS ws (List.range 24)=ws.length:=by
 refine List.countP_eq_length.mpr fun w hw=>kg.mpr ⟨w.1,List.mem_range.mpr ?_,?_⟩
 ·have:=(ok w hw).le
  have:=(ok w hw).lt
  omega
 ·unfold xK
  rw [decide_eq_true (Nat.le_refl _),decide_eq_true (ok w hw).le]
  rfl
theorem tY {ws:List Wk} {ls:List Nat} {p:Pl} (h:yD ws ls p):jX ls.length p:=h.1.inn
def eQ (K:Fg) (H:Hp) (v:V) (lys:List (List Nat×List Nat)):Prop:=∃ p xs,v=.ref p/\aZ K H p xs/\cL (gR K H) xs lys
def Dv (K:Fg):Sp:=fun vs H Q _=>∃ (v:V) (ws:List Wk),vs=[v]/\fA K H v ws/\ws.length≤64/\(∀ w∈ws,eM w)/\∀ (x:V) (lys:List (List Nat×List Nat)) (H':Hp),aw H H'->eQ K H' x lys->re ws (List.range 24) lys->(∀ y∈lys,dH ws.length y)->lys.length≤64->Q x H'
def lP (K:Fg):Sp:=fun vs H Q _=>∃ (v:V) (ws:List Wk),vs=[v]/\fA K H v ws/\ws.length≤64/\(∀ w∈ws,eM w)/\∀ (l:Addr) (xs:List V) (lys:List (List Nat×List Nat)) (H':Hp),aw H H'->H l=none->H' l=some (.lst xs)->cL (gR K H') xs lys->re ws (List.range 24) lys->(∀ y∈lys,dH ws.length y)->lys.length≤64->Q (.ref l) H'
def fE (K:Fg):Sp:=fun vs H Q _=>∃ (v x:V) (ws:List Wk) (y:List Nat×List Nat),vs=[v,x]/\fA K H v ws/\ws.length≤64/\(∀ w∈ws,eM w)/\gR K H x y/\dH ws.length y/\Gp K H Q (ku ws y)
abbrev qb:=fE
def vD (K:Fg):Sp:=fun vs H Q _=>∃ (v:V) (ws:List Wk),vs=[v]/\fA K H v ws/\ws.length≤64/\(∀ w∈ws,eM w)/\∀ (p:Addr) (xs:List V) (lys:List (List Nat×List Nat)) (H':Hp),aw H H'->aZ K H' p xs->cL (RV K H') xs (DN ws lys)->re ws (List.range 24) lys->Q (.ref p) H'
def yz (K:Fg):Sp:=fun vs H Q _=>∃ (v:V) (ws:List Wk),vs=[v]/\fA K H v ws/\ws.length≤64/\(∀ w∈ws,eM w)/\∀ (l:Addr) (xs:List V) (lys:List (List Nat×List Nat)) (H':Hp),aw H H'->H' l=some (.lst xs)->cL (RV K H') xs (DN ws lys)->re ws (List.range 24) lys->Q (.ref l) H'
def yI (K:Fg):Sp:=fun vs H Q _=>∃ (v w:V) (r q:R) (n m:Nat),vs=[v,w]/\RV K H v r/\RV K H w q/\Wf n r/\Wf m q/\n+m+1≤3000/\q.1≠0/\Gp K H Q (nu r q)
def ky (K:Fg):Sp:=fun vs H Q _=>∃ (v w:V) (r q:R) (n m:Nat),vs=[v,w]/\RV K H v r/\RV K H w q/\Wf n r/\Wf m q/\n+m+1≤3000/\Q (.bl (gD r q)) H
abbrev qc:=ky
def qh (K:Fg):Sp:=fun vs H Q _=>∃ (v:V) (d:PyData),vs=[v]/\bu K H v d/\Q (.bl (iB d)) H
def kx (K:Fg):Sp:=fun vs H Q _=>∃ (v:V) (d:PyData) (m:Nat),vs=[v,.int m]/\bu K H v d/\Q (.bl (uy m d)) H
theorem kh {d:PyData} (h:iB d=true):∃ i,d=.int i:=by
 cases d with
 | int i=>exact⟨i,rfl⟩
 | _=>cases h
theorem dB {H H':Hp} {x:Addr} {o0:HO} (hx:H x=none) (kp:∀ b o,b≠x->upd H x o0 b=some o->H' b=some o):aw H (iN H' x):=fun b o e=>by
 have nb:b≠x:=aV e hx
 unfold iN
 rw [if_neg nb]
 exact kp b o nb (by rw [aJ nb];exact e)
theorem eK {H:Hp} {x d:Addr} (n:d≠x):iN H x d=H d:=by unfold iN;rw [if_neg n]
def uE (_:Fg):Sp:=fun vs H Q _=>∃ v:V,vs=[v]/\((∃ i,v=.int i)∨∃ x,v=.str x)/\Q v H
theorem Ak {D i n:Nat} {ps:List (Int×Int)} {r:R} (h:∀ p∈ps,p.1∣(D:Int)) (hr:r.2∣(D:Int)):∀ p∈fQ ps r.2 r.1,p.1∣(D:Int):=fun p hp=>by
 rcases (jf ps r.2 r.1 p.1).mp (List.mem_map.mpr ⟨p,hp,rfl⟩) with z | z
 ·obtain⟨q,hq,e⟩:=List.mem_map.mp z
  rw [← e]
  exact h q hq
 ·rw [z];exact hr
theorem C0 {D n i:Nat} {ps:List (Int×Int)} (ok:jY n i ps) (hd:∀ p∈ps,p.1∣(D:Int)) (hi:i≤64) {q:Int×Int} (hq:q∈ps):Bq D (64 * 2 ^ n) (fe q.2 q.1):=by
 have b:=(ok.bot q hq).1
 refine yk b (hd q hq) (Nat.le_trans (ok.top q hq) ?_)
 refine Nat.le_trans (Nat.mul_le_mul_right _ hi) (Nat.le_mul_of_pos_right _ (by omega))
theorem Df {D n j:Nat} {r:R} (h:Bq D (64 * 2 ^ n * j) r) (hj:j≤64) (h0:0 < D) (hD:D < 2 ^ n):Wf (2 * n+12) r:=by
 refine h.wf h0 (Nat.lt_of_lt_of_le hD (Nat.pow_le_pow_right (by decide) (by omega))) ?_
 have a:64 * 2 ^ n * j≤64 * 2 ^ n * 64:=Nat.mul_le_mul_left _ hj
 have b:64 * 2 ^ n * j * D < 64 * 2 ^ n * 64 * 2 ^ n:=Nat.lt_of_le_of_lt (Nat.mul_le_mul_right _ a) (Nat.mul_lt_mul_of_pos_left hD (Nat.mul_pos (Nat.mul_pos (by decide) (Nat.pow_pos (by decide))) (by decide)))
 refine Nat.lt_of_lt_of_le b ?_
 rw [show 2 * n+12=n+(n+12) by omega,Nat.pow_add,Nat.pow_add,show (2:Nat) ^ 12=4096 by decide]
 rw [show 64 * 2 ^ n * 64 * 2 ^ n=2 ^ n * (2 ^ n * 4096) by rw [show (4096:Nat)=64 * 64 by decide];ac_rfl]
 exact Nat.le_refl _
theorem EU {r:R} (h:Dt r):Bq 84 12 r:=by
 have a:=h.top
 have b:=h.top'
 have c:=h.bot
 refine⟨by omega,h.wf.cop,h.dvd,?_⟩
 have:12 * 1≤12 * r.2.natAbs:=Nat.mul_le_mul_left _ (by omega)
 omega
theorem vW {D N:Nat} (hD:0 < D):∀ {rs:List R},(∀ r∈rs,Bq D N r)->∀ {a:R} {M:Nat},Bq D M a->Bq D (M+N * rs.length) (rs.foldl de a)
 | [],_,a,M,h=>by simpa using h
 | r :: rs,hr,a,M,h=>by
  have:=vW hD (fun q hq=>hr q (List.mem_cons_of_mem _ hq)) (h.plus hD (hr r List.mem_cons_self))
  rw [List.foldl_cons,List.length_cons,Nat.mul_succ]
  refine this.mono (Nat.dvd_refl _) (by omega)
theorem F8 {D:Nat}:Bq D 0 ((0,1):R):=⟨by decide,by decide,⟨(D:Int),by show (D:Int)=1 * D;omega⟩,by show 0≤_;exact Nat.zero_le _⟩
theorem yH {D N:Nat} (hD:0 < D) {rs:List R} (h:∀ r∈rs,Bq D N r):Bq D (N * rs.length) (ge rs):=by
 have:=vW hD h (F8 (D:=D))
 rw [Nat.zero_add] at this
 exact this
theorem yS {ws:List Wk} {y:Ly} (ok:∀ w∈ws,eM w) (hw:ws.length≤9) (lok:dH ws.length y):Bq (84 * y.1.length) 108 (ku ws y):=by
 have am:∀ r∈jE ws y,Bq 84 12 r:=fun r hr=>by
  obtain⟨i,hi,rfl⟩:=List.mem_map.mp hr
  have hl:=lok.num i hi
  rw [aN rg (List.getElem?_eq_getElem hl)]
  exact EU (ok _ (List.getElem_mem hl)).am
 have la:(jE ws y).length=y.2.length:=List.length_map _
 have len:=lok.len
 have pos:=lok.pos
 have s:=(yH (by decide) am).mono (Nat.dvd_refl _) (show 12 * (jE ws y).length≤108 by omega)
 have o:Bq y.1.length 1 ((1,(y.1.length:Int)):R):=⟨by show (0:Int) < _;omega,by simp,Int.dvd_refl _,by show (1:Int).natAbs≤1 * ((y.1.length:Int)).natAbs;omega⟩
 exact s.times o
theorem qY {f:PyData->Bool} (ds:List PyData):((List.range ds.length).map fun i=>f (ds.getD i .none)).all id=ds.all f:=by
 rw [Bool.eq_iff_iff,List.all_eq_true,List.all_eq_true]
 constructor
 ·intro h d hd
  obtain⟨i,hi,e⟩:=List.mem_iff_getElem.mp hd
  have:=h (f (ds.getD i .none)) (List.mem_map.mpr ⟨i,List.mem_range.mpr hi,rfl⟩)
  rw [aN PyData.none (List.getElem?_eq_getElem hi),e] at this
  exact this
 ·intro h b hb
  obtain⟨i,hi,rfl⟩:=List.mem_map.mp hb
  have hi':=List.mem_range.mp hi
  rw [aN PyData.none (List.getElem?_eq_getElem hi')]
  exact h _ (List.getElem_mem hi')
theorem hX {n i:Nat} {f:Nat->Bool} (hi:i < n) (h:f i=true) (b:∀ j,j < i->f j=false):(List.range n).find? f=some i:=by
 rw [List.find?_range_eq_some]
 exact⟨h,List.mem_range.mpr hi,fun j hj=>by rw [b j hj];rfl⟩
theorem hV {n:Nat} {f:Nat->Bool} (b:∀ j,j < n->f j=false):(List.range n).find? f=none:=by
 rw [List.find?_eq_none]
 intro j hj
 rw [b j (List.mem_range.mp hj)]
 exact Bool.false_ne_true
def i4 (ls:List Nat) (w:Wk):Bool:=(List.range (w.2.1+1 - w.1)).all fun i=>ls.contains (w.1+i)
theorem nj:∀ {a b:List Nat},a.Pairwise (· < ·)->b.Pairwise (· < ·)->(∀ n,n∈a↔n∈b)->a=b
 | [],[],_,_,_=>rfl
 | [],y :: b,_,_,h=>by have:=(h y).mpr List.mem_cons_self;cases this
 | x :: a,[],_,_,h=>by have:=(h x).mp List.mem_cons_self;cases this
 | x :: a,y :: b,ha,hb,h=>by
  obtain⟨ax,ha'⟩:=List.pairwise_cons.mp ha
  obtain⟨bx,hb'⟩:=List.pairwise_cons.mp hb
  have e:x=y:=by
   rcases List.mem_cons.mp ((h x).mp List.mem_cons_self) with q | q
   ·exact q
   ·rcases List.mem_cons.mp ((h y).mpr List.mem_cons_self) with r | r
    ·exact r.symm
    ·have h1:=bx x q
     have h2:=ax y r
     omega
  subst e
  rw [nj ha' hb' fun n=>?_]
  constructor
  ·intro q
   rcases List.mem_cons.mp ((h n).mp (List.mem_cons_of_mem _ q)) with r | r
   ·have:=ax n q;omega
   ·exact r
  ·intro q
   rcases List.mem_cons.mp ((h n).mpr (List.mem_cons_of_mem _ q)) with r | r
   ·have:=bx n q;omega
   ·exact r
def qu (ls:List Nat):PyData:=.list (ls.map fun n:Nat=>PyData.int n)
theorem qQ:∀ {a b:List Nat},PyData.eqv (qu a) (qu b)=decide (a=b)
 | [],[]=>rfl
 | [],_ :: _=>rfl
 | _ :: _,[]=>rfl
 | x :: a,y :: b=>by
  have ih:PyData.eqvAll (a.map fun n:Nat=>PyData.int n) (b.map fun n:Nat=>PyData.int n)=decide (a=b):=qQ (a:=a) (b:=b)
  show (((x:Nat):Int) == ((y:Nat):Int) && PyData.eqvAll (a.map fun n:Nat=>PyData.int n) (b.map fun n:Nat=>PyData.int n))=_
  rw [ih]
  by_cases e:x=y
  ·subst e;simp
  ·have e':¬ ((x:Nat):Int)=((y:Nat):Int):=by omega
   simp [e,e']
theorem nM {K:Fg} {H:Hp} {p:Addr} {ls:List Nat} (h:bj K H p (au ls)):bu K H (.ref p) (qu ls):=by
 refine .lst h ?_
 clear h
 unfold au
 induction ls with
 | nil=>exact .nil
 | cons x r ih=>exact .cons (.int _) ih
theorem gh:∀ {ls:List Nat} {a b:Nat},ls.Pairwise (· < ·)->(∀ n∈ls,a≤n/\n < b)->ls.length≤b - a
 | [],_,_,_,_=>Nat.zero_le _
 | x :: r,a,b,h,m=>by
  obtain⟨hx,hr⟩:=List.pairwise_cons.mp h
  have ih:=gh (a:=x+1) (b:=b) hr fun n hn=>⟨hx n hn,(m n (List.mem_cons_of_mem _ hn)).2⟩
  have:=m x List.mem_cons_self
  rw [List.length_cons]
  omega
theorem kU (ls:List Nat):(qu ls).canLay0=true/\(qu ls).depth≤32:=by
 unfold qu
 constructor
 ·induction ls with
  | nil=>rfl
  | cons x r ih=>exact ih
 ·refine Nat.le_trans (m:=1) ?_ (by decide)
  induction ls with
  | nil=>decide
  | cons x r ih=>simpa [PyData.depth,PyData.depthAll] using ih
theorem wZ {r:R} {m:Nat} (hr:0 < r.2) (h:0 < m):nu r ((m:Int),1)=eB r (1,(m:Int)):=by
 unfold nu eB
 show j9 (r.1 * 1) (r.2 * (m:Int))=fe (r.1 * 1) (r.2 * (m:Int))
 exact o1 (Int.mul_pos hr (by omega))
def fC (H:Hp) (t D:Addr):Hp:=iN (iN H t) D
theorem zU {t D:Addr} {H H':Hp} (s:aw H H'):aw (fC H t D) (fC H' t D):=pk (pk s)
theorem t4 {t D:Addr} {H H':Hp} (S:bB t H H'):aw (fC H t D) (fC H' t D):=pk (z8 S)
theorem uc {t D:Addr} {H:Hp}:aw (fC H t D) H:=ui.trans ui
theorem sG {t D p:Addr} {H:Hp} {o:HO} (g:H p=none) (h:∃ xs,H t=some (.lst xs)) (h2:∃ ys,H D=some (.lst ys)):fC (upd H p o) t D p=some o:=by
 unfold fC
 rw [eK (show p≠D from fun z=>by subst z;obtain⟨_,q⟩:=h2;rw [g] at q;cases q)]
 exact Da g h
theorem HD {t D p:Addr} {H:Hp} {o:HO} (g:H p=none) (h:∃ xs,H t=some (.lst xs)) (h2:∃ ys,H D=some (.lst ys)):aw H (upd H p o)/\upd H p o p=some o/\fC (upd H p o) t D p=some o:=⟨ak g o,af,sG g h h2⟩
theorem xn {t p:Addr} {H:Hp} (g:H p=none) (h:∃ xs,H t=some (.lst xs)):p≠t:=fun z=>by subst z;obtain⟨_,q⟩:=h;rw [g] at q;cases q
theorem tS {K:Fg} {H H':Hp} (e:aw H H') {p:Addr} {xs:List V} (h:aZ K H p xs):aZ K H' p xs:=bn.same e _ _ h
theorem tP {K:Fg} {t:Addr} {H H':Hp} (e:bB t H H') {p:Addr} {xs:List V} (h:aZ K H p xs):aZ K H' p xs:=bn.step e _ _ h
theorem aS {K:Fg} {t D:Addr} {H H':Hp} (e:aw H H') {v:List V} {d:List PyData} (h:aq K (fC H t D) v d):aq K (fC H' t D) v d:=aq.same (zU e) h
theorem aP {K:Fg} {t D:Addr} {H H':Hp} (e:bB t H H') {v:List V} {d:List PyData} (h:aq K (fC H t D) v d):aq K (fC H' t D) v d:=aq.same (t4 e) h
theorem gW {k n k' n':Nat} {d:PyData} (h:Gd k n d) (hk:k≤k':=by decide) (hn:n≤n':=by decide):Gd k' n' d:=h.mono hk hn
theorem gN {k n:Nat}:∀ d∈([]:List PyData),Gd k n d:=fun d hd=>by cases hd
theorem gC {k n:Nat} {e:PyData} {ds:List PyData} (h:Gd k n e) (t:∀ d∈ds,Gd k n d):∀ d∈e :: ds,Gd k n d:=fun d hd=>(List.mem_cons.mp hd).elim (fun z=>z ▸ h) (t d)
theorem xS {k n:Nat} {ds:List PyData} (m N:Nat) (h:∀ d∈ds,Gd k n d) (hm:ds.length≤m:=by exact Nat.le_refl _) (hN:(n+3) * m+8≤N:=by decide):Gd (k+1) N (.tuple ds):=Gd.tup (m:=m) h hm hN
theorem F3 {k n:Nat} {ds:List PyData} (m N:Nat) (h:∀ d∈ds,Gd k n d) (hm:ds.length≤m:=by exact Nat.le_refl _) (hN:(n+3) * m+8≤N:=by decide):Gd (k+1) N (.list ds):=Gd.lst (m:=m) h hm hN
theorem jk {t D p:Addr} {H H':Hp} {o:HO} (e:upd H p o=H') (g:H p=none) (h:∃ xs,H t=some (.lst xs)) (h2:∃ ys,H D=some (.lst ys)):aw H H'/\H' p=some o/\fC H' t D p=some o:=e ▸ HD g h h2
theorem gf {K:Fg} {t s D:Addr} {H0 H H':Hp} (e:aw H H') (S:bB t H0 H) (T:bJ K H t s) (h:∃ ys,H D=some (.lst ys)):bB t H0 H'/\bJ K H' t s/\∃ ys,H' D=some (.lst ys):=⟨S.trans (.same e T.lst),T.same e,h.imp fun _ q=>e _ _ q⟩
theorem gH {K:Fg} {t:Addr} {H:Hp} (h:∃ xs,H t=some (.lst xs)):bn K H (fC H t t):=by
 have e:fC H t t=iN H t:=by
  funext b
  unfold fC iN
  by_cases z:b=t
  ·rw [if_pos z,if_pos z]
  ·rw [if_neg z]
 rw [e]
 exact C9 h
theorem Ae {xs:List V}:dY xs none (some (-1))=xs.take (xs.length - 1):=by
 unfold dY
 rw [HT.sIx_none,Nat.sub_zero,List.drop_zero]
 congr 1
 show (if (-1:Int) < 0 then ((-1:Int)+(xs.length:Int)).toNat else min (-1:Int).toNat xs.length)=_
 rw [if_pos (by decide)]
 omega
theorem eQ.mono {K:Fg} {H H':Hp} {v:V} {l:List (List Nat×List Nat)} (h:eQ K H v l) (t:bn K H H'):eQ K H' v l:=let ⟨p,xs,e,h1,h2⟩:=h;⟨p,xs,e,t _ _ h1,h2.mono fun _ _ q=>q.mono t⟩
instance:gQ eQ:=⟨fun t q=>q.mono t⟩
theorem dq {xs:List V} {n:Nat}:dY xs (some (n:Int)) none=xs.drop n:=by
 by_cases h:n≤xs.length
 ·exact yh h
 ·unfold dY
  rw [HT.sIx_nat,HT.sIx_none,Nat.min_eq_right (by omega),List.drop_eq_nil_of_le (Nat.le_refl _),List.drop_eq_nil_of_le (by omega),List.take_nil]
theorem gu (ls:List Nat):au ls=(ls.map fun n:Nat=>(n:Int)).map V.int:=by unfold au;rw [List.map_map];rfl
theorem kO {ms:List Int} {ls:List Nat} (h:ms.Perm (ls.map fun n:Nat=>(n:Int))):∃ ms':List Nat,ms.map V.int=au ms'/\ms'.Perm ls:=by
 refine⟨ms.map Int.toNat,?_,?_⟩
 ·unfold au
  rw [List.map_map]
  refine List.map_congr_left fun x hx=>?_
  obtain⟨n,_,rfl⟩:=List.mem_map.mp (h.mem_iff.mp hx)
  rfl
 ·have:=h.map Int.toNat
  rw [List.map_map] at this
  have e:ls.map (Int.toNat ∘ fun n:Nat=>(n:Int))=ls:=(List.map_congr_left (g:=id) (fun x _=>rfl)).trans (List.map_id ls)
  rw [e] at this
  exact this
theorem eI (a b:List Nat):au a++au b=au (a++b):=by unfold au;rw [List.map_append]
def rF (K:Fg):Sp:=fun vs H Q _=>∃ (l:Addr) (xs:List V) (lys:List Ly),vs=[.ref l]/\bj K H l xs/\cL (gR K H) xs lys/\lys.length≤64/\(lys.flatMap (·.1)).length < 64/\(lys.flatMap (·.2)).length < 64/\∀ (v:V) (y:Ly) (H':Hp),aw H H'->gR K H' v y->y.1.Perm (lys.flatMap (·.1))->y.2.Perm (lys.flatMap (·.2))->Q v H'
theorem yg (ls:List Nat) (q:Pl):(fw ls q).length+(dF ls q).length≤ls.length:=by
 have e:ls=ls.take q.1++(fw ls q++(ls.drop q.1).drop (q.2+1 - q.1)):=by
  unfold fw
  rw [List.take_append_drop,List.take_append_drop]
 have f:dF ls q=ls.filter fun t=>!(fw ls q).contains t:=rfl
 rw [f]
 generalize fw ls q=c at e ⊢
 have a:=List.length_filter_le (fun t=>!c.contains t) (ls.take q.1)
 have b:=List.length_filter_le (fun t=>!c.contains t) ((ls.drop q.1).drop (q.2+1 - q.1))
 have z:c.filter (fun t=>!c.contains t)=[]:=List.filter_eq_nil_iff.mpr fun t ht=>by rw [List.contains_iff_mem.mpr ht];exact Bool.false_ne_true
 have l:=congrArg List.length e
 have g:=congrArg (fun l=>(l.filter fun t=>!c.contains t).length) e
 rw [List.length_append,List.length_append] at l
 have g':(ls.filter fun t=>!c.contains t).length=((ls.take q.1++(c++(ls.drop q.1).drop (q.2+1 - q.1))).filter fun t=>!c.contains t).length:=g
 rw [List.filter_append,List.filter_append,z,List.nil_append,List.length_append] at g'
 omega
theorem vc {ws:List Wk} {ls:List Nat} {lys:List Ly} (h:re ws ls lys):(lys.flatMap (·.1)).length≤ls.length:=by
 induction h with
 | nil _=>exact Nat.zero_le _
 | @cons ls p r it _ ih=>
  rw [List.flatMap_cons,List.length_append]
  have:=yg ls p
  have e:(pI ws ls p).1=fw ls p:=rfl
  rw [e]
  omega
theorem xB {ws:List Wk} {ls:List Nat} {lys:List Ly} (nd:ls.Nodup) (h:re ws ls lys):(lys.flatMap (·.2)).length≤lS ws ls:=by
 induction h with
 | nil _=>exact Nat.zero_le _
 | @cons ls p r it _ ih=>
  rw [List.flatMap_cons,List.length_append]
  have:=tR (ws:=ws) nd (tY it)
  have e:(pI ws ls p).2=cw (ws.map (cq ls)) p:=rfl
  have:=ih (tJ nd p)
  rw [e]
  omega
theorem dX {f:Ly->List Nat} (lys:List Ly) (n:Nat):((lys.take n).flatMap f).length+((lys.drop n).flatMap f).length=(lys.flatMap f).length:=by
 rw [← List.length_append,← List.flatMap_append,List.take_append_drop]
theorem nK {lys:List Ly} {n:Nat} (h:∀ y∈lys,dH n y):lys.length≤(lys.flatMap (·.1)).length:=by
 induction lys with
 | nil=>exact Nat.zero_le _
 | cons y r ih=>
  rw [List.flatMap_cons,List.length_append,List.length_cons]
  have:=ih fun z hz=>h z (List.mem_cons_of_mem _ hz)
  have:=(h y List.mem_cons_self).pos
  omega
theorem w6 {n:Nat} {lys:List Ly} {y:Ly} (h:∀ z∈lys,dH n z) (ne:lys≠[]) (l1:(lys.flatMap (·.1)).length≤25) (l2:(lys.flatMap (·.2)).length≤n) (p1:y.1.Perm (lys.flatMap (·.1))) (p2:y.2.Perm (lys.flatMap (·.2))):dH n y:=by
 have fm:=nK h
 have p0:0 < lys.length:=List.length_pos_iff.mpr ne
 refine⟨by rw [p1.length_eq];omega,by rw [p1.length_eq];exact l1,fun t ht=>?_,fun i hi=>?_,by rw [p2.length_eq];exact l2⟩
 ·obtain⟨z,hz,hm⟩:=List.mem_flatMap.mp (p1.mem_iff.mp ht)
  exact (h z hz).lt t hm
 ·obtain⟨z,hz,hm⟩:=List.mem_flatMap.mp (p2.mem_iff.mp hi)
  exact (h z hz).num i hm
def jg (n:Nat) (p:List Ly):Prop:=p.length≤26/\∀ y∈p,dH n y
def lO (K:Fg):Sp:=fun vs H Q _=>∃ (t s:Addr) (v:V) (ws:List Wk),vs=[.ref t,v]/\bJ K H t s/\fA K H v ws/\ws.length≤9/\(∀ w∈ws,eM w)/\∀ (l:Addr) (xs:List V) (pps:List (List Ly)) (H':Hp),bB t H H'->bJ K H' t s->H' l=some (.lst xs)->cL (eQ K H') xs pps->(∀ p∈pps,jg ws.length p)->pps.length≤6->Q (.ref l) H'
theorem BR {n:Nat} {lys:List Ly} (h:∀ y∈lys,dH n y) (l:lys.length≤24):jg n lys:=⟨by omega,h⟩
theorem oP {n:Nat} {a b:List Ly} (ha:∀ y∈a,dH n y) (hb:∀ y∈b,dH n y) (l:a.length+b.length≤26):jg n (a++b):=⟨by rw [List.length_append];exact l,fun y hy=>(List.mem_append.mp hy).elim (ha y) (hb y)⟩
theorem kL {n:Nat} {y:Ly} (h:dH n y):∀ z∈[y],dH n z:=fun z hz=>by rw [List.mem_singleton.mp hz];exact h
theorem uX {n:Nat} {p:List Ly} {r:List (List Ly)} (h:jg n p) (t:∀ q∈r,jg n q):∀ q∈p :: r,jg n q:=fun q hq=>(List.mem_cons.mp hq).elim (fun e=>e ▸ h) (t q)
theorem wG {n:Nat}:∀ q∈([]:List (List Ly)),jg n q:=fun q hq=>by cases hq
theorem ze {n:Nat} {a b:List (List Ly)} (ha:∀ q∈a,jg n q) (hb:∀ q∈b,jg n q):∀ q∈a++b,jg n q:=fun q hq=>(List.mem_append.mp hq).elim (ha q) (hb q)
def fX (m:Nat):PyData->Bool
 | .int i=>decide (0≤i) && decide (i < m)
 | _=>false
def kT:PyData->Nat
 | .int i=>i.toNat
 | _=>0
def oI (ls:List Nat):Bool:=(List.range (ls.length - 1)).all fun i=>decide (ls.getD i 0 < ls.getD (i+1) 0)
def jz:PyData->List PyData
 | .tuple ds=>ds
 | _=>[]
def jI (m:Nat):PyData->Bool
 | .tuple ds=>ds.all (fX m) && oI (ds.map kT)
 | _=>false
theorem j7 {m:Nat}:∀ {ds:List PyData},ds.all (fX m)=true->∃ ls:List Nat,ds=ls.map (fun n:Nat=>PyData.int n)/\∀ n∈ls,n < m
 | [],_=>⟨[],rfl,fun n hn=>by cases hn⟩
 | d :: ds,h=>by
  rw [List.all_cons,Bool.and_eq_true] at h
  obtain⟨ls,e,hl⟩:=j7 h.2
  cases d with
  | int i=>
   have h1:(decide (0≤i) && decide (i < m))=true:=h.1
   rw [Bool.and_eq_true,decide_eq_true_iff,decide_eq_true_iff] at h1
   refine⟨i.toNat :: ls,?_,fun n hn=>?_⟩
   ·rw [List.map_cons,← e]
    show _=PyData.int ((i.toNat:Nat):Int) :: ds
    rw [Int.toNat_of_nonneg h1.1]
   ·rcases List.mem_cons.mp hn with z | z
    ·omega
    ·exact hl n z
  | _=>cases h.1
theorem j8 {ls:List Nat}:(ls.map (fun n:Nat=>PyData.int n)).map kT=ls:=by
 rw [List.map_map]
 exact (List.map_congr_left fun n _=>by show ((n:Int)).toNat=n;omega).trans (List.map_id _)
theorem hZ {K:Fg} {H:Hp}:∀ {ls:List Nat} {xs:List V},aq K H xs (ls.map fun n:Nat=>PyData.int n)->xs=au ls
 | [],_,.nil=>rfl
 | n :: ls,_,.cons h t=>by
  cases h
  rw [hZ t]
  rfl
theorem kH {ls:List Nat}:oI ls=true↔ls.Pairwise (· < ·):=by
 unfold oI
 rw [List.all_eq_true]
 constructor
 ·intro h
  induction ls with
  | nil=>exact .nil
  | cons x r ih=>
   have ih':r.Pairwise (· < ·):=ih fun i hi=>by
    have hi':=List.mem_range.mp hi
    have:=h (i+1) (List.mem_range.mpr (by rw [List.length_cons];omega))
    simpa using this
   cases r with
   | nil=>exact List.pairwise_singleton _ _
   | cons y r=>
    have h0:=of_decide_eq_true (h 0 (List.mem_range.mpr (by simp)))
    have h0':x < y:=h0
    refine List.pairwise_cons.mpr ⟨fun z hz=>?_,ih'⟩
    rcases List.mem_cons.mp hz with e | e
    ·omega
    ·have:=(List.pairwise_cons.mp ih').1 z e
     omega
 ·intro h i hi
  have hi':=List.mem_range.mp hi
  refine decide_eq_true ?_
  have e1:ls[i]?=some (ls[i]'(by omega)):=List.getElem?_eq_getElem _
  have e2:ls[i+1]?=some (ls[i+1]'(by omega)):=List.getElem?_eq_getElem _
  rw [aN 0 e1,aN 0 e2]
  exact List.pairwise_iff_getElem.mp h i (i+1) (by omega) (by omega) (Nat.lt_succ_self i)
theorem rR {K:Fg} {H:Hp} {v:V} {d:PyData} {m:Nat} (h:bu K H v d) (r:jI m d=true):∃ p ls,v=.ref p/\d=ii ls/\aZ K H p (au ls)/\ls.Pairwise (· < ·)/\∀ n∈ls,n < m:=by
 cases h with
 | tup e t=>
  have r':=r
  unfold jI at r'
  rw [Bool.and_eq_true] at r'
  obtain⟨ls,rfl,hl⟩:=j7 r'.1
  rw [j8] at r'
  cases hZ t
  exact⟨_,ls,rfl,rfl,e,kH.mp r'.2,hl⟩
 | _=>cases r
theorem pR (ls:List Nat):(jz (ii ls)).map kT=ls:=j8
theorem oW {ls:List Nat} {ms:List Int} (h1:∀ n∈ls,n < 24) (hp:ms.Perm (b6 (ls.map fun n:Nat=>(n:Int)))) (hs:ms.Pairwise (·≤·)) :
  ∃ zs:List Nat,ms.map V.int=au zs/\zs.Pairwise (· < ·)/\∀ n,n∈zs↔n∈ls:=by
 have mem:∀ m,m∈ms↔∃ n∈ls,(n:Int)=m:=fun m=>by
  rw [hp.mem_iff,qz,List.mem_map]
 have pos:∀ m∈ms,0≤m:=fun m hm=>by
  obtain⟨n,_,rfl⟩:=(mem m).mp hm
  omega
 have nd:ms.Nodup:=hp.nodup_iff.mpr (lR _)
 refine⟨ms.map Int.toNat,?_,?_,fun n=>?_⟩
 ·unfold au
  rw [List.map_map]
  refine List.map_congr_left fun m hm=>?_
  show V.int m=V.int (m.toNat:Int)
  rw [Int.toNat_of_nonneg (pos m hm)]
 ·rw [List.pairwise_map]
  refine (hs.and nd).imp_of_mem fun ha hb h=>?_
  have:=pos _ ha
  have:=pos _ hb
  obtain⟨h1,h2⟩:=h
  omega
 ·rw [List.mem_map]
  constructor
  ·rintro⟨m,hm,rfl⟩
   obtain⟨n,hn,rfl⟩:=(mem m).mp hm
   rw [Int.toNat_natCast]
   exact hn
  ·intro hn
   exact⟨(n:Int),(mem _).mpr ⟨n,hn,rfl⟩,Int.toNat_natCast n⟩
def Dh (K:Fg) (H:Hp) (v:V) (ls:List Nat):Prop:=∃ q,v=.ref q/\aZ K H q (au ls)
theorem Dh.mono {K:Fg} {H H':Hp} {v:V} {ls:List Nat} (h:Dh K H v ls) (t:bn K H H'):Dh K H' v ls:=let ⟨q,e,s⟩:=h;⟨q,e,t _ _ s⟩
instance:gQ Dh:=⟨fun t q=>q.mono t⟩
def gG (n:Nat):PyData->Bool
 | .tuple [x,y]=>jI 24 x && (decide (0 < (jz x).length) && jI n y)
 | _=>false
def oQ (n:Nat):PyData->Bool
 | .tuple ds=>ds.all (gG n)
 | _=>false
def kY:PyData->Ly
 | .tuple [x,y]=>((jz x).map kT,(jz y).map kT)
 | _=>([],[])
def ir (d:PyData):List Ly:=(jz d).map kY
theorem AQ {m:Nat} {d:PyData} (h:uy 2 d=false):gG m d=false:=by
 unfold gG
 split
 ·cases h
 ·rfl
structure lY (n:Nat) (y:Ly):Prop where
 r1:y.1.Pairwise (· < ·)
 l1:∀ t∈y.1,t < 24
 p1:0 < y.1.length
 r2:y.2.Pairwise (· < ·)
 l2:∀ t∈y.2,t < n
theorem lY.ok {n:Nat} {y:Ly} (h:lY n y):dH n y:=⟨h.p1,by have:=gh h.r1 (fun t ht=>⟨Nat.zero_le t,h.l1 t ht⟩);omega,h.l1,h.l2,by have:=gh h.r2 (fun t ht=>⟨Nat.zero_le t,h.l2 t ht⟩);omega⟩
theorem lY.f1 {n:Nat} {y:Ly} (h:lY n y):y.1.length≤24:=by have:=gh h.r1 (fun t ht=>⟨Nat.zero_le t,h.l1 t ht⟩);omega
theorem lY.f2 {n:Nat} {y:Ly} (h:lY n y):y.2.length≤n:=by have:=gh h.r2 (fun t ht=>⟨Nat.zero_le t,h.l2 t ht⟩);omega
theorem CS {K:Fg} {H:Hp} {v:V} {d:PyData} {n:Nat} (h:bu K H v d) (r:gG n d=true):gR K H v (kY d)/\d=uo (kY d)/\lY n (kY d):=by
 cases h with
 | @tup a xs ds e t=>
  unfold gG at r
  split at r
  ·rename_i x y hd
   cases hd
   rw [Bool.and_eq_true,Bool.and_eq_true,decide_eq_true_iff] at r
   obtain⟨r1,r2,r3⟩:=r
   cases t with
   | cons hx t=>
    cases t with
    | cons hy t=>
     cases t
     obtain⟨p,ls,rfl,rfl,hp,s1,l1⟩:=rR hx r1
     obtain⟨q,ms,rfl,rfl,hq,s2,l2⟩:=rR hy r3
     have e0:kY (.tuple [ii ls,ii ms])=(ls,ms):=by show ((jz (ii ls)).map kT,(jz (ii ms)).map kT)=_;rw [pR,pR]
     rw [e0]
     refine⟨⟨_,p,q,rfl,e,hp,hq⟩,rfl,⟨s1,l1,?_,s2,l2⟩⟩
     have:0 < (ls.map fun n:Nat=>PyData.int n).length:=r2
     rw [List.length_map] at this
     exact this
  ·cases r
 | _=>cases r
theorem o5 {K:Fg} {H:Hp} {n:Nat}:∀ {xs:List V} {ds:List PyData},aq K H xs ds->ds.all (gG n)=true->cL (gR K H) xs (ds.map kY)/\ds=(ds.map kY).map uo/\∀ y∈ds.map kY,lY n y
 | _,_,.nil,_=>⟨.nil,rfl,fun y hy=>by cases hy⟩
 | _,_,.cons h t,r=>by
  rw [List.all_cons,Bool.and_eq_true] at r
  obtain⟨a1,a2,a3⟩:=CS h r.1
  obtain⟨b1,b2,b3⟩:=o5 t r.2
  refine⟨.cons a1 b1,?_,fun y hy=>?_⟩
  ·rw [List.map_cons,List.map_cons,← b2,← a2]
  ·rcases List.mem_cons.mp hy with z | z
   ·rw [z];exact a3
   ·exact b3 y z
theorem Ca {K:Fg} {H:Hp} {v:V} {d:PyData} {n:Nat} (h:bu K H v d) (r:oQ n d=true):eQ K H v (ir d)/\(∀ y∈ir d,lY n y)/\(ir d).length=(jz d).length:=by
 cases h with
 | @tup a xs ds e t=>
  obtain⟨b1,b2,b3⟩:=o5 t r
  exact⟨⟨_,_,rfl,e,b1⟩,b3,List.length_map _⟩
 | _=>cases r
def dS (rows:List (List Nat)):Option Nat:=(List.range rows.length).find? fun n=>(rows.getD n []).any fun x=>((rows.take n).flatten).contains x
def qD (ws:List Wk) (p:List Ly):Bool:=decide ((p.map fun y=>(y.2.length:Int)).sum < (ws.length:Int))
def bC (p:List Ly):List Nat:=p.flatMap (·.1)
def pE (ws:List Wk) (p:List Ly) (n:Nat):Bool:=(p.getD n ([],[])).2.any fun i=>!i4 (bC (p.take (n+1))) (ws.getD i rg)
def vI (ws:List Wk) (p:List Ly):Option Nat:=(List.range p.length).find? (pE ws p)
def ja (ws:List Wk) (p:List Ly) (n:Nat):Bool:=gD (ku ws (p.getD n ([],[]))) (ku ws (p.getD (n+1) ([],[])))
def qN (ws:List Wk) (p:List Ly):Option Nat:=(List.range (p.length - 1)).find? (ja ws p)
def gl (ws:List Wk) (p:List Ly):Option (Str×Int):=match dS (p.map fun y:Ly=>y.1) with
 | some n=>some (Str.ofString "turn", (n:Int))
 | none=>match dS (p.map fun y:Ly=>y.2) with
  | some n=>some (Str.ofString "work", (n:Int))
  | none=>if qD ws p=true then some (Str.ofString "lacks", -1) else none
def rh (ws:List Wk) (p:List Ly):Option (Str×Int):=(vI ws p).map fun n=>(Str.ofString "window", (n:Int))
def vk (ws:List Wk) (p:List Ly):Option (Str×Int):=(qN ws p).map fun n=>(Str.ofString "falls", 1+(n:Int))
def ij (ws:List Wk) (p:List Ly):Option (Str×Int):=match gl ws p with
 | some z=>some z
 | none=>match rh ws p with
  | some z=>some z
  | none=>vk ws p
def jS (ws:List Wk) (d:PyData):Option (Str×Int):=if oQ ws.length d=true then ij ws (ir d) else some (Str.ofString "shape", -1)
def vJ (d:PyData):Prop:=(jz d).length≤30/\∀ e∈jz d,∀ f∈jz e,(jz f).length≤60
def jU (K:Fg):Sp:=fun vs H Q _=>∃ (v:V) (d:PyData) (m:Nat),vs=[v,.int (m:Nat)]/\bu K H v d/\Q (.bl (fX m d)) H
def oA (K:Fg):Sp:=fun vs H Q _=>∃ (v:V) (d:PyData) (m:Nat),vs=[v,.int (m:Nat)]/\bu K H v d/\(jz d).length≤60/\∀ H',aw H H'->Q (.bl (jI m d)) H'
def iE (K:Fg):Sp:=fun vs H Q _=>∃ (v:V) (d:PyData) (m:Nat),vs=[v,.int (m:Nat)]/\bu K H v d/\(∀ f∈jz d,(jz f).length≤60)/\∀ H',aw H H'->Q (.bl (gG m d)) H'
def iD (K:Fg):Sp:=fun vs H Q _=>∃ (v:V) (d:PyData) (m:Nat),vs=[v,.int (m:Nat)]/\bu K H v d/\vJ d/\∀ H',aw H H'->Q (.bl (oQ m d)) H'
def FY:Option Nat->V
 | none=>.non
 | some n=>.int (n:Nat)
def kz (K:Fg):Sp:=fun vs H Q _=>∃ (l:Addr) (xs:List V) (rows:List (List Nat)),vs=[.ref l]/\bj K H l xs/\cL (Dh K H) xs rows/\(∀ r∈rows,r.length≤24)/\rows.length≤30/\∀ H',aw H H'->Q (FY (dS rows)) H'
def oB (_:Fg) (C:Addr):Sp:=fun vs H Q _=>∃ (a:Addr) (x:Str) (n:Int),vs=[.ref a,.str x,.int n]/\H a=some (jl a C none)/\∀ (d:Addr) (H':Hp),H d=none->d≠a->(∀ b o,b≠a->H b=some o->H' b=some o)->H' a=some (jl a C (some d))->H' d=some (dO d [("number", .int n),("word", .str x)])->Q .non H'
structure EX (K:Fg) (H:Hp) (v c:V) (ws:List Wk) (p:List Ly):Prop where
 wv:fA K H v ws
 w9:ws.length≤9
 ok:∀ w∈ws,eM w
 lv:eQ K H c p
 rs:∀ y∈p,lY ws.length y
 p30:p.length≤30
theorem EX.same {K:Fg} {H H':Hp} {v c:V} {ws:List Wk} {p:List Ly} (h:EX K H v c ws p) (s:aw H H'):EX K H' v c ws p:=⟨h.wv.mono (bn.same s),h.w9,h.ok,h.lv.mono (bn.same s),h.rs,h.p30⟩
def De (f:List Wk->List Ly->Option (Str×Int)) (K:Fg) (C:Addr):Sp:=fun vs H Q E=>∃ (v c:V) (ws:List Wk) (p:List Ly),vs=[v,c]/\EX K H v c ws p/\(f ws p=none->∀ H',aw H H'->Q .non H')∧
 (∀ z n,f ws p=some (z,n)->∀ (dd:Addr) (H':Hp),aw H H'->H' dd=some (dO dd [("number", .int n),("word", .str z)])->E (.ref C) (some dd) H')
abbrev qi:=De gl
abbrev kA:=De rh
abbrev jq:=De vk
structure Ds (K:Fg) (H:Hp) (v c:V) (ws:List Wk) (d:PyData):Prop where
 wv:fA K H v ws
 w9:ws.length≤9
 ok:∀ w∈ws,eM w
 dp:bu K H c d
 wd:vJ d
 gd:Gd 5 8000000 d
theorem Ds.same {K:Fg} {H H':Hp} {v c:V} {ws:List Wk} {d:PyData} (h:Ds K H v c ws d) (s:aw H H'):Ds K H' v c ws d:=⟨h.wv.mono (bn.same s),h.w9,h.ok,h.dp.same s,h.wd,h.gd⟩
def iV (K:Fg) (C:Addr):Sp:=fun vs H Q E=>∃ (v c:V) (ws:List Wk) (d:PyData),vs=[v,c]/\Ds K H v c ws d/\(jS ws d=none->∀ H',aw H H'->Q (.bl true) H')∧
 (∀ z n,jS ws d=some (z,n)->∀ (dd:Addr) (H':Hp),aw H H'->H' dd=some (dO dd [("number", .int n),("word", .str z)])->E (.ref C) (some dd) H')
def E5 (K:Fg) (H:Hp) (u:V):Option (Str×Int)->Prop
 | none=>u=.non
 | some (z,n)=>∃ p,u=.ref p/\aZ K H p [.str z,.int n]
def ic (K:Fg):Sp:=fun vs H Q _=>∃ (v:V) (d:PyData) (m:Nat),vs=[v,.int (m:Nat)]/\bu K H v d/\m≤24/\(jz d).length≤60/\∀ H',aw H H'->Q (.bl (jI m d)) H'
theorem mf {ws:List Wk} {d:PyData} (h:oQ ws.length d=false):jS ws d=some (Str.ofString "shape", -1):=by unfold jS;rw [h];rfl
def ow (K:Fg):Sp:=fun vs H Q _=>∃ (v c:V) (ws:List Wk) (d:PyData),vs=[v,c]/\Ds K H v c ws d/\∀ (u:V) (H':Hp),aw H H'->E5 K H' u (jS ws d)->Q u H'
def HX (K:Fg) (C:Addr) (H:Hp) (u:V):Option (Str×Int)->Prop
 | none=>∃ p l,u=.ref p/\aZ K H p [.bl true,.ref l]/\H l=some (.lst [])
 | some (z,n)=>∃ p l x dd,u=.ref p/\aZ K H p [.ref x,.ref l]/\H x=some (vG x C dd)/\H dd=some (dO dd [("number", .int n),("word", .str z)])/\H l=some (.lst [.bl true,.bl true,.bl true,.bl false])
def oo (K:Fg) (C:Addr):Sp:=fun vs H Q _=>∃ (v c:V) (ws:List Wk) (d:PyData),vs=[v,c]/\Ds K H v c ws d/\∀ (x:V) (H':Hp),aw H H'->HX K C H' x (jS ws d)->Q x H'
def oq (K:Fg):Sp:=fun vs H Q _=>∃ (v c:V) (ws:List Wk) (d:PyData),vs=[v,c]/\Ds K H v c ws d/\∀ H',aw H H'->Q (.bl true) H'
theorem Bf {ws:List Wk} {d:PyData} (hw:∀ w∈ws,eM w) (lw:ws.length≤9) (g:Gd 5 8000000 d):yu (.tuple [ye ws,d]):=by
 refine Sh.shows (k:=6) (n:=16000014) (Sh.tup (k:=5) (n:=8000000) (m:=2) (fun e he=>?_) (Nat.le_refl _) (by decide)) (by decide) (by decide)
 simp only [List.mem_cons,List.not_mem_nil,or_false] at he
 rcases he with rfl | rfl
 ·refine (Sh.tup (k:=2) (n:=20000) (m:=9) (N:=190000) (fun d hd=>?_) (by rw [List.length_map];exact lw) (by decide)).mono (by decide) (by decide)
  obtain⟨w,hw',rfl⟩:=List.mem_map.mp hd
  exact Bi (hw w hw')
 ·exact g.sh
def xr:PyData->Bool
 | .tuple []=>true
 | _=>false
theorem z7 {d:PyData}:PyData.eqv d (.tuple [])=xr d:=by
 cases d with
 | tuple ds=>cases ds <;> rfl
 | _=>rfl
theorem zK {m:Nat} {x y:PyData} (h:xr x=true):gG m (.tuple [x,y])=false:=by
 unfold xr at h
 split at h
 ·show (jI 24 (.tuple []) && (decide (0 < ([]:List PyData).length) && jI m y))=false
  cases jI 24 (.tuple []) <;> rfl
 ·cases h
theorem zJ {m:Nat} {x:PyData} (h:xr x=false) (r:jI m x=true):0 < (jz x).length:=by
 cases x with
 | tuple ds=>
  cases ds with
  | nil=>cases h
  | cons d ds=>show 0 < ds.length+1;omega
 | _=>cases r
def cC (k:Nat) (y:Ly):List Nat:=if k=0 then y.1 else y.2
theorem v6 {K:Fg} {H:Hp} {v:V} {y:Ly} {k:Nat} (hk:k < 2) (h:gR K H v y):∃ pL a b q,v=.ref pL/\aZ K H pL [.ref a,.ref b]/\jm [V.ref a,V.ref b] (k:Int)=some (.ref q)/\aZ K H q (au (cC k y)):=by
 obtain⟨pL,a,b,e,h0,h1,h2⟩:=h
 rcases (show k=0∨k=1 by omega) with rfl | rfl
 ·exact⟨pL,a,b,a,e,h0,rfl,h1⟩
 ·exact⟨pL,a,b,b,e,h0,rfl,h2⟩
theorem lV {k n:Nat} {p:List Ly}:((p.map (cC k)).take n).flatten=(p.take n).flatMap (cC k):=by
 rw [← List.map_take,List.flatMap_def]
theorem pA:∀ {ds:List PyData} {n:Nat},(PyData.tuple ds).depth≤n+1->∀ d∈ds,d.depth≤n
 | [],_,_,d,hd=>by cases hd
 | e :: ds,n,h,d,hd=>by
  have h':max e.depth (PyData.depthAll ds)+1≤n+1:=h
  rcases List.mem_cons.mp hd with z | z
  ·rw [z];omega
  ·exact pA (show PyData.depthAll ds+1≤n+1 by omega) d z
theorem o6:∀ {ds:List PyData},(PyData.tuple ds).canLay0=true->∀ d∈ds,d.canLay0=true
 | [],_,d,hd=>by cases hd
 | e :: ds,h,d,hd=>by
  have h':(e.canLay0 && PyData.canLayAll0 ds)=true:=h
  rw [Bool.and_eq_true] at h'
  rcases List.mem_cons.mp hd with z | z
  ·rw [z];exact h'.1
  ·exact o6 (show (PyData.tuple ds).canLay0=true from h'.2) d z
def ou (K:Fg) (C:Addr):Sp:=fun vs H Q _=>∃ (x dd:Addr) (fs:List (Str×V)),vs=[.ref x]/\H x=some (vG x C dd)/\H dd=some (dO dd fs)/\∀ (l:Addr) (H':Hp),aw H H'->H' l=some (.lst [.bl true,.bl true,.bl true,.bl false])->Q (.ref l) H'
structure lL (kvs:List (cZ×V)) (ls:List Nat):Prop where
 len:kvs.length≤ls.length
 has:∀ x:Nat,(ef kvs (Sum.inl (x:Int))).isSome=ls.contains x
theorem lL.nil:lL [] []:=⟨Nat.le_refl _,fun x=>rfl⟩
theorem lL.put {kvs:List (cZ×V)} {ls:List Nat} (h:lL kvs ls) (x:Nat) (v:V):lL (eT kvs (Sum.inl (x:Int)) v) (ls++[x]):=by
 refine⟨?_,fun z=>?_⟩
 ·have:=gE kvs (Sum.inl (x:Int)) v
  have:=h.len
  rw [List.length_append,List.length_singleton]
  omega
 ·rw [vL]
  by_cases e:z=x
  ·subst e
   rw [if_pos rfl]
   simp
  ·rw [if_neg (fun q=>e (by injection q with q;omega)),h.has]
   simp [e]
theorem j4 {ws:List Wk} {y:Ly} (ok:∀ w∈ws,eM w) (hw:ws.length≤9) (lo:dH ws.length y):Wf 40 (ku ws y):=by
 have b:=yS ok hw lo
 have f:=lo.few
 have p:=lo.pos
 refine b.wf (by omega) (Nat.lt_of_le_of_lt (m:=2100) (by omega) (by decide)) (Nat.lt_of_le_of_lt (m:=108 * 2100) (Nat.mul_le_mul_left _ (by omega)) (by decide))
theorem qX (l:List Nat) (f:Nat->Bool):((List.range l.length).any fun i=>f (l.getD i 0))=l.any f:=by
 rw [Bool.eq_iff_iff,List.any_eq_true,List.any_eq_true]
 constructor
 ·rintro⟨i,hi,h⟩
  have hl:=List.mem_range.mp hi
  rw [aN 0 (List.getElem?_eq_getElem hl)] at h
  exact⟨_,List.getElem_mem hl,h⟩
 ·rintro⟨x,hx,h⟩
  obtain⟨i,hi,rfl⟩:=List.mem_iff_getElem.mp hx
  exact⟨i,List.mem_range.mpr hi,by rw [aN 0 (List.getElem?_eq_getElem hi)];exact h⟩
theorem aq.rev {K:Fg} {H:Hp}:∀ {xs:List V} {ds:List PyData},aq K H xs ds->aq K H xs.reverse ds.reverse
 | _,_,.nil=>.nil
 | _,_,.cons h t=>by
  rw [List.reverse_cons,List.reverse_cons]
  exact aq.app (aq.rev t) (.cons h .nil)
theorem C2 {k n:Nat} {ds:List PyData} (h:∀ d∈ds,Gd k n d):∀ d∈ds.reverse,Gd k n d:=fun d hd=>h d (List.mem_reverse.mp hd)
theorem xQ {i:Int} (h:i.natAbs < 100):Gd 0 20 (.int i):=by
 have hl:i.natAbs.log2 < 7:=by
  by_cases z:i.natAbs=0
  ·rw [z];decide
  ·exact (Nat.log2_lt z).mpr (by omega)
 have q:=int_text_length_le (a:=i) (k:=7) (by decide) hl
 have e:(PyData.int i).shown.length=(toString i).length:=by
  show (Str.ofString (toString i)).length=_
  exact PySem.ofString_length _
 refine⟨⟨?_,rfl,Nat.le_refl _,?_⟩,rfl,?_⟩
 ·exact (show decide (i.natAbs.log2 < 1920)=true from decide_eq_true (by omega))
 ·omega
 ·exact decide_eq_true (Nat.lt_trans h (by decide))
theorem EL (b:Bool):Gd 0 20 (.bool b):=by cases b <;> exact⟨⟨rfl,rfl,Nat.le_refl _,by decide⟩,rfl,rfl⟩
def zL (ls:List Nat):List PyData:=ls.map fun n:Nat=>PyData.int n
theorem o9 {ls:List Nat} (h:∀ n∈ls,n < 24):∀ d∈zL ls,Gd 0 20 d:=fun d hd=>by
 obtain⟨n,hn,rfl⟩:=List.mem_map.mp hd
 exact xQ (by have:=h n hn;omega)
theorem vw {K:Fg} {H:Hp} (ls:List Nat):aq K H (au ls) (zL ls):=by
 unfold au zL
 induction ls with
 | nil=>exact .nil
 | cons x r ih=>exact .cons (.int _) ih
def u5 (d:PyData):Prop:=∀ f∈jz d,(jz f).length≤60
theorem AO {n:Nat} (h:n < 24):((n:Int)).natAbs < 100:=by omega
theorem Fr {ls:List Nat} {x:Nat} (h:∀ n∈ls,n < 24) (hx:x < 24):∀ n∈ls++[x],n < 24:=fun n hn=>(List.mem_append.mp hn).elim (h n) (fun z=>by rw [List.mem_singleton.mp z];exact hx)
def LN (d:PyData):Prop:=(jz d).length≤60
theorem ED {ds:List PyData} (h:ds.length≤60):LN (.tuple ds):=h
theorem F0 {ds:List PyData}:LN (.list ds):=Nat.zero_le _
theorem yV:∀ f∈([]:List PyData),LN f:=fun f hf=>by cases hf
theorem wz {x:PyData} {ds:List PyData} (h:LN x) (t:∀ f∈ds,LN f):∀ f∈x :: ds,LN f:=fun f hf=>(List.mem_cons.mp hf).elim (fun z=>z ▸ h) (t f)
theorem BG {ds:List PyData} (h:∀ f∈ds,LN f):u5 (.tuple ds):=h
theorem FX {ds:List PyData}:u5 (.list ds):=fun f hf=>by cases hf
theorem Hx:∀ e∈([]:List PyData),u5 e:=fun e he=>by cases he
theorem Hy {x:PyData} {ds:List PyData} (h:u5 x) (t:∀ e∈ds,u5 e):∀ e∈x :: ds,u5 e:=fun e he=>(List.mem_cons.mp he).elim (fun z=>z ▸ h) (t e)
theorem A1 {ds:List PyData} (l:ds.length≤30) (h:∀ e∈ds,u5 e):vJ (.tuple ds):=⟨l,h⟩
theorem FE {ds:List PyData}:vJ (.list ds):=⟨Nat.zero_le _,fun e he=>by cases he⟩
theorem A2 {d:PyData} (h:jz d=[]):vJ d:=⟨by rw [h];exact Nat.zero_le _,fun e he=>by rw [h] at he;cases he⟩
theorem AJ {n:Nat} {y:Ly} (h:dH n y) (hn:n≤9):u5 (uo y):=BG (wz (ED (by rw [List.length_map];have:=h.few;omega)) (wz (ED (by rw [List.length_map];have:=h.len;omega)) yV))
theorem uf {n:Nat} {y:Ly} (h:dH n y) (hn:n≤9):Gd 2 1180 (uo y):=by
 refine xS 2 1180 (k:=1) (n:=583) (gC ?_ (gC ?_ gN))
 ·exact Gd.tup (m:=25) (o9 h.lt) (by rw [List.length_map];exact h.few) (by decide)
 ·exact Gd.tup (m:=25) (o9 fun t ht=>by have:=h.num t ht;omega) (by rw [List.length_map];have:=h.len;omega) (by decide)
theorem qr {ls:List Nat} {ms:List Int} {zs:List Nat} (hp:ms.Perm (b6 (ls.map fun n:Nat=>(n:Int)))) (e:ms.map V.int=au zs):zs.length≤ls.length:=by
 have a:=fW (ls.map fun n:Nat=>(n:Int))
 have b:=congrArg List.length e
 unfold au at b
 rw [List.length_map,List.length_map,hp.length_eq] at b
 rw [List.length_map] at a
 omega
theorem HJ {α:Type} {l:List α} {m n:Nat} (h:l.length≤m):(l.take n).length≤m:=by rw [List.length_take];omega
theorem HK {α:Type} {l:List α} {m n:Nat} (h:l.length≤m):(l.drop n).length≤m:=by rw [List.length_drop];omega
theorem CP {α:Type} {l k:List α} {m n:Nat} (h:l.length≤m) (h':k.length≤n):(l++k).length≤m+n:=by rw [List.length_append];omega
theorem HI {α:Type} {l:List α} {m:Nat} (h:l.length≤m):l.reverse.length≤m:=by rw [List.length_reverse];exact h
theorem HG {ls:List Nat} {m:Nat} (h:ls.length≤m):(au ls).length≤m:=by unfold au;rw [List.length_map];exact h
theorem Bz {n m:Nat} (h:n≤m) (k:m≤1000:=by decide):n≤sizeLine:=Nat.le_trans (Nat.le_trans h k) dI
theorem yB {a b m n:Nat} (h:a≤m) (h':b≤n) (k:m+n≤1000:=by decide):a+b≤sizeLine:=Nat.le_trans (show a+b≤1000 by omega) dI
theorem EC {n m k:Nat} (h:n≤m) (h':m≤k) (c:k < 64:=by decide):n < 64:=by omega
theorem xE {ls:List Nat} {m:Nat} (h:ls.length≤m) (c:m≤1000:=by decide):(ls.map fun n:Nat=>(n:Int)).length≤1000:=by rw [List.length_map];omega
def jp (K:Fg):Sp:=fun vs H Q _=>∃ (t s:Addr) (v w:V) (ws:List Wk) (y:Ly),vs=[.ref t,v,w]/\bJ K H t s/\fA K H v ws/\ws.length≤9/\gR K H w y/\dH ws.length y/\∀ (u:V) (d:PyData) (H':Hp),bB t H H'->bJ K H' t s->bu K (fC H' t t) u d->Gd 2 260186 d->u5 d->Q u H'
def qg (K:Fg):Sp:=fun vs H Q _=>∃ (t s:Addr) (v w:V) (ws:List Wk) (p:List Ly),vs=[.ref t,v,w]/\bJ K H t s/\fA K H v ws/\ws.length≤9/\eQ K H w p/\jg ws.length p/\∀ (u:V) (d:PyData) (H':Hp),bB t H H'->bJ K H' t s->bu K (fC H' t t) u d->Gd 5 8000000 d->vJ d->Q u H'
theorem Dy (y:Ly):vJ (uo y):=⟨by show 2≤30;decide,fun e he f hf=>by
 have:e=ii y.1∨e=ii y.2:=by
  have he':e∈[ii y.1,ii y.2]:=he
  simpa using he'
 have hf':jz f=[]:=by
  rcases this with rfl | rfl <;> (obtain⟨n,_,rfl⟩:=List.mem_map.mp (show f∈List.map (fun n:Nat=>PyData.int n) _ from hf);rfl)
 rw [hf']
 exact Nat.zero_le _⟩
theorem aq.at0 {K:Fg} {H:Hp} {xs:List V} {ds:List PyData} (h:aq K H xs ds) {i:Nat} {x:V} {d:PyData} (hx:xs[i]?=some x) (hd:ds[i]?=some d):bu K H x d:=by
 obtain⟨y,hy,q⟩:=aq.atN h hd
 rw [hx] at hy
 cases hy
 exact q
structure Bg (K:Fg) (H0 H:Hp) (t s pw pt pn:Addr) (xw xT xN:List V):Prop where
 S:bB t H0 H
 T:bJ K H t s
 hW:aZ K H pw xw
 hT:aZ K H pt xT
 hN:aZ K H pn xN
section
variable {K:Fg} {H0 H H':Hp} {t s pw pt pn p:Addr} {xw xT xN vs:List V} {o:HO}
theorem Bg.sm (e:aw H H') (B:Bg K H0 H t s pw pt pn xw xT xN):Bg K H0 H' t s pw pt pn xw xT xN:=⟨B.S.trans (.same e B.T.lst),B.T.same e,tS e B.hW,tS e B.hT,tS e B.hN⟩
theorem Bg.st (S:bB t H H') (T:bJ K H' t s) (B:Bg K H0 H t s pw pt pn xw xT xN):Bg K H0 H' t s pw pt pn xw xT xN:=⟨B.S.trans S,T,tP S B.hW,tP S B.hT,tP S B.hN⟩
def DB (t u:TS):TS:=fun D σ H=>∀ R:L2.St->Hp->Prop,(∀ σ' H',u D σ' H'->R σ' H')->t { D with nx:=R } σ H
theorem aY {X:Cx} {st:Stmt} {cS:List Stmt} {t u:TS} (h1:QS X st t) (h2:dU X cS u):dU X (st :: cS) (DB t u):=⟨by
 intro pins s σ H D I q
 exact (ag h1 h2).p pins s σ H D I (q _ fun _ _ z=>z)⟩
def Fl (K:Fg) (m:Nat) (xs:List V):Prop:=xs.length≤m/\∃ ds,(∀ H,aq K H xs ds)/\∀ d∈ds,Gd 0 20 d
theorem Fl.nat {ls:List Nat} {m:Nat} (h:ls.length≤m) (l:∀ n∈ls,n < 24):Fl K m (au ls):=⟨HG h,zL ls,fun _=>vw ls,o9 l⟩
theorem Fl.take {m:Nat} {xs:List V} (n:Nat) (h:Fl K m xs):Fl K m (xs.take n):=let ⟨l,ds,d,g⟩:=h;⟨HJ l,ds.take n,fun H=>(d H).takeN n,zV n g⟩
theorem Fl.drop {m:Nat} {xs:List V} (n:Nat) (h:Fl K m xs):Fl K m (xs.drop n):=let ⟨l,ds,d,g⟩:=h;⟨HK l,ds.drop n,fun H=>(d H).dropN n,zY n g⟩
theorem Fl.app {m n:Nat} {xs ys:List V} (h:Fl K m xs) (h':Fl K n ys):Fl K (m+n) (xs++ys):=let ⟨l,ds,d,g⟩:=h;let ⟨l',ds',d',g'⟩:=h';⟨CP l l',ds++ds',fun H=>(d H).app (d' H),C3 g g'⟩
theorem Fl.rev {m:Nat} {xs:List V} (h:Fl K m xs):Fl K m xs.reverse:=let ⟨l,ds,d,g⟩:=h;⟨HI l,ds.reverse,fun H=>aq.rev (d H),C2 g⟩
theorem Fl.int {i:Int} (h:i.natAbs < 100):Fl K 1 [.int i]:=⟨Nat.le_refl _,[.int i],fun _=>.cons (.int _) .nil,gC (xQ h) gN⟩
theorem Fl.bl (b:Bool):Fl K 1 [.bl b]:=⟨Nat.le_refl _,[.bool b],fun _=>.cons (.bl _) .nil,gC (EL b) gN⟩
theorem Fl.nil:Fl K 0 []:=⟨Nat.le_refl _,[],fun _=>.nil,gN⟩
def Mn (K:Fg) (H:Hp) (t:Addr) (vs:List V):Prop:=∃ ds,aq K (fC H t t) vs ds/\∀ d∈ds,Gd 2 260186 d/\u5 d
theorem Mn.nil:Mn K H t []:=⟨[],.nil,fun d hd=>by cases hd⟩
theorem Mn.sm (e:aw H H') (M:Mn K H t vs):Mn K H' t vs:=let ⟨ds,d,g⟩:=M;⟨ds,aS e d,g⟩
theorem Mn.st (S:bB t H H') (M:Mn K H t vs):Mn K H' t vs:=let ⟨ds,d,g⟩:=M;⟨ds,aP S d,g⟩
theorem Mn.snoc {v:V} {d:PyData} (M:Mn K H t vs) (h:bu K (fC H t t) v d) (g:Gd 2 260186 d) (w:u5 d):Mn K H t (vs++[v]):=let ⟨ds,e,q⟩:=M;⟨ds++[d],e.app (.cons h .nil),fun x hx=>(List.mem_append.mp hx).elim (q x) (fun z=>by rw [List.mem_singleton.mp z];exact⟨g,w⟩)⟩
inductive lZ (K:Fg) (H:Hp):V->PyData->Prop where
 | tup {a:Addr} {xs:List V} {ds:List PyData} (h:aZ K H a xs) (l:ds.length≤60) (d:∀ H,aq K H xs ds) (g:∀ d∈ds,Gd 0 20 d):lZ K H (.ref a) (.tuple ds)
 | lst {a:Addr} {xs:List V} {ds:List PyData} (h:H a=some (.lst xs)) (ne:a≠t) (l:ds.length≤60) (d:∀ H,aq K H xs ds) (g:∀ d∈ds,Gd 0 20 d):lZ K H (.ref a) (.list ds)
theorem ph {m:Nat} {xs:List V} {ds:List PyData} (H:Hp) (l:xs.length≤m) (d:∀ H,aq K H xs ds) (hm:m≤60):ds.length≤60:=by rw [← (d H).len];omega
theorem cu {a:Addr} {m:Nat} {xs:List V} (h:aZ K H a xs) (f:Fl K m xs) (hm:m≤60:=by decide):∃ d,lZ (t:=t) K H (.ref a) d:=let ⟨l,ds,d,g⟩:=f;⟨_,.tup h (ph H l d hm) d g⟩
theorem AK {a:Addr} {m:Nat} {xs:List V} (h:H a=some (.lst xs)) (ne:a≠t) (f:Fl K m xs) (hm:m≤60:=by decide):∃ d,lZ (t:=t) K H (.ref a) d:=let ⟨l,ds,d,g⟩:=f;⟨_,.lst h ne (ph H l d hm) d g⟩
theorem lZ.deep {v:V} {d:PyData} (h:lZ (t:=t) K H v d) (T:∃ xs,H t=some (.lst xs)):bu K (fC H t t) v d/\Gd 1 1388 d/\LN d:=by
 cases h with
 | tup h l d g=>exact⟨.tup (gH T _ _ h) (d _),xS 60 1388 g l,l⟩
 | @lst a xs ds h ne l d g=>
  refine⟨.lst (bj.of ?_) (d _),F3 60 1388 g l,F0⟩
  unfold fC
  rw [eK ne,eK ne]
  exact h
theorem kP {vs:List V} {ps:List PyData} (T:∃ xs,H t=some (.lst xs)):∀ {vs:List V} {ps:List PyData},cL (fun v d=>lZ (t:=t) K H v d) vs ps->aq K (fC H t t) vs ps/\(∀ d∈ps,Gd 1 1388 d)/\∀ d∈ps,LN d
 | _,_,.nil=>⟨.nil,gN,yV⟩
 | _,_,.cons h r=>by
  obtain⟨a,b,c⟩:=h.deep T
  obtain⟨a',b',c'⟩:=kP (vs:=vs) (ps:=ps) T r
  exact⟨.cons a a',gC b b',wz c c'⟩
theorem lZ.same {v:V} {d:PyData} (e:aw H H') (h:lZ (t:=t) K H v d):lZ (t:=t) K H' v d:=by
 cases h with
 | tup h l d g=>exact .tup (tS e h) l d g
 | lst h ne l d g=>exact .lst (e _ _ h) ne l d g
theorem HR {x:V} (hx:∃ d,lZ (t:=t) K H x d):∃ ps,cL (fun v d=>lZ (t:=t) K H v d) [x] ps/\ps.length≤3:=let ⟨d,h⟩:=hx;⟨[d],.cons h .nil,Nat.le_of_ble_eq_true rfl⟩
theorem ug {x y:V} (hx:∃ d,lZ (t:=t) K H x d) (hy:∃ d,lZ (t:=t) K H y d):∃ ps,cL (fun v d=>lZ (t:=t) K H v d) [x,y] ps/\ps.length≤3:=let ⟨d,h⟩:=hx;let ⟨e,k⟩:=hy;⟨[d,e],.cons h (.cons k .nil),Nat.le_of_ble_eq_true rfl⟩
theorem HQ {x y z:V} (hx:∃ d,lZ (t:=t) K H x d) (hy:∃ d,lZ (t:=t) K H y d) (hz:∃ d,lZ (t:=t) K H z d):∃ ps,cL (fun v d=>lZ (t:=t) K H v d) [x,y,z] ps/\ps.length≤3:=let ⟨d,h⟩:=hx;let ⟨e,k⟩:=hy;let ⟨f,q⟩:=hz;⟨[d,e,f],.cons h (.cons k (.cons q .nil)),Nat.le_of_ble_eq_true rfl⟩
theorem Bg.nw (e:upd H p o=H') (g:H p=none) (B:Bg K H0 H t s pw pt pn xw xT xN):aw H H'/\H' p=some o/\p≠t/\Bg K H0 H' t s pw pt pn xw xT xN:=by
 subst e
 exact⟨ak g o,af,xn g B.T.lst,B.sm (ak g o)⟩
theorem Bg.add {zs:List V} (e:upd H p (.tup zs)=H') (g:H p=none) (B:Bg K H0 H t s pw pt pn xw xT xN) (M:Mn K H t vs) (h:∃ ps,cL (fun v d=>lZ (t:=t) K H v d) zs ps/\ps.length≤3):aw H H'/\Bg K H0 H' t s pw pt pn xw xT xN/\Mn K H' t (vs++[.ref p]):=by
 subst e
 obtain⟨ps,al,l3⟩:=h
 have en:=ak g (HO.tup zs)
 have B':=B.sm en
 obtain⟨a,b,c⟩:=kP (vs:=vs) (ps:=ps) B'.T.lst (al.mono fun _ _ q=>q.same en)
 exact⟨en,B',(M.sm en).snoc (.tup (aZ.of (sG g B.T.lst B.T.lst)) a) ((xS 3 4181 b l3).mono (by decide) (by decide)) (BG c)⟩
theorem Bg.addL {zs:List V} (e:upd H p (.lst zs)=H') (g:H p=none) (B:Bg K H0 H t s pw pt pn xw xT xN) (M:Mn K H t vs) (h:∃ ps,cL (fun v d=>lZ (t:=t) K H v d) zs ps/\ps.length≤3):aw H H'/\Bg K H0 H' t s pw pt pn xw xT xN/\Mn K H' t (vs++[.ref p]):=by
 subst e
 obtain⟨ps,al,l3⟩:=h
 have en:=ak g (HO.lst zs)
 have B':=B.sm en
 obtain⟨a,b,c⟩:=kP (vs:=vs) (ps:=ps) B'.T.lst (al.mono fun _ _ q=>q.same en)
 exact⟨en,B',(M.sm en).snoc (.lst (bj.of (sG g B.T.lst B.T.lst)) a) ((F3 3 4181 b l3).mono (by decide) (by decide)) FX⟩
theorem Mn.pick {r:Int} (M:Mn K H t vs) (h0:0≤r) (h1:r < vs.length):∃ v d,jm vs r=some v/\bu K (fC H t t) v d/\Gd 2 260186 d/\u5 d:=by
 obtain⟨ds,a,g⟩:=M
 obtain⟨v,d,e,m,q⟩:=aq.pick a h0 h1
 exact⟨v,d,e,q,g d m⟩
end
structure Bh (K:Fg) (H0 H:Hp) (t s pw pp:Addr) (xp:List V) (ws:List Wk) (p:List Ly):Prop where
 S:bB t H0 H
 T:bJ K H t s
 wv:fA K H (.ref pw) ws
 hP:aZ K H pp xp
 al:cL (gR K H) xp p
section
variable {K:Fg} {H0 H H':Hp} {t s pw pp q:Addr} {xp vs ys:List V} {ws:List Wk} {p:List Ly} {o:HO}
theorem Bh.sm (e:aw H H') (B:Bh K H0 H t s pw pp xp ws p):Bh K H0 H' t s pw pp xp ws p:=⟨B.S.trans (.same e B.T.lst),B.T.same e,B.wv.mono (bn.same e),tS e B.hP,B.al.mono fun _ _ q=>q.mono (bn.same e)⟩
theorem Bh.st (S:bB t H H') (T:bJ K H' t s) (B:Bh K H0 H t s pw pp xp ws p):Bh K H0 H' t s pw pp xp ws p:=⟨B.S.trans S,T,B.wv.mono (bn.step S),tP S B.hP,B.al.mono fun _ _ q=>q.mono (bn.step S)⟩
theorem Bh.nw (e:upd H q o=H') (g:H q=none) (B:Bh K H0 H t s pw pp xp ws p):aw H H'/\H' q=some o/\q≠t/\Bh K H0 H' t s pw pp xp ws p:=by
 subst e
 exact⟨ak g o,af,xn g B.T.lst,B.sm (ak g o)⟩
theorem Bh.mn (B:Bh K H0 H t s pw pp xp ws p) (lok:∀ y∈p,dH ws.length y) (w9:ws.length≤9):Mn K H t xp:=⟨p.map uo,(B.al.mono fun _ _ q=>q.mono (gH B.T.lst)).deep fun _ _ q=>q.deep,fun d hd=>by
 obtain⟨y,hy,rfl⟩:=List.mem_map.mp hd
 exact⟨gW (uf (lok y hy) w9),AJ (lok y hy) w9⟩⟩
theorem Mn.take (n:Nat) (M:Mn K H t vs):Mn K H t (vs.take n):=let ⟨ds,a,g⟩:=M;⟨ds.take n,a.takeN n,fun d hd=>g d (List.mem_of_mem_take hd)⟩
theorem Mn.drop (n:Nat) (M:Mn K H t vs):Mn K H t (vs.drop n):=let ⟨ds,a,g⟩:=M;⟨ds.drop n,a.dropN n,fun d hd=>g d (List.mem_of_mem_drop hd)⟩
theorem Mn.app (M:Mn K H t vs) (N:Mn K H t ys):Mn K H t (vs++ys):=let ⟨ds,a,g⟩:=M;let ⟨es,b,h⟩:=N;⟨ds++es,a.app b,fun d hd=>(List.mem_append.mp hd).elim (g d) (h d)⟩
theorem Mn.rev (M:Mn K H t vs):Mn K H t vs.reverse:=let ⟨ds,a,g⟩:=M;⟨ds.reverse,aq.rev a,fun d hd=>g d (List.mem_reverse.mp hd)⟩
theorem Mn.one {v:V} {d:PyData} (h:bu K (fC H t t) v d) (g:Gd 2 260186 d) (w:u5 d):Mn K H t [v]:=⟨[d],.cons h .nil,fun e he=>by rw [List.mem_singleton.mp he];exact⟨g,w⟩⟩
theorem Mn.at {i:Nat} {x:V} (M:Mn K H t vs) (hx:vs[i]?=some x):Mn K H t [x]:=by
 obtain⟨ds,a,g⟩:=M
 have hl:=a.len
 have hi:=(List.getElem?_eq_some_iff.mp hx).1
 have hd:ds[i]?=some (ds[i]'(by omega)):=List.getElem?_eq_getElem _
 exact .one (aq.at0 a hx hd) (g _ (List.getElem_mem _)).1 (g _ (List.getElem_mem _)).2
def Tg (K:Fg) (H:Hp) (t:Addr) (v:V):Prop:=∃ d,bu K (fC H t t) v d/\Gd 5 8000000 d/\vJ d
theorem Tg.tup {a:Addr} (M:Mn K H t vs) (T:∃ xs,H t=some (.lst xs)) (h:aZ K H a vs) (l:vs.length≤27):Tg K H t (.ref a):=by
 obtain⟨ds,d,g⟩:=M
 have l':ds.length≤27:=by rw [← d.len];exact l
 exact⟨_,.tup (gH T _ _ h) d,(xS 27 7025111 (fun d hd=>(g d hd).1) l').mono (by decide) (by decide),A1 (by omega) fun d hd=>(g d hd).2⟩
theorem Tg.lst {a:Addr} (M:Mn K H t vs) (h:H a=some (.lst vs)) (ne:a≠t) (l:vs.length≤27):Tg K H t (.ref a):=by
 obtain⟨ds,d,g⟩:=M
 have l':ds.length≤27:=by rw [← d.len];exact l
 refine⟨_,.lst (bj.of ?_) d,(F3 27 7025111 (fun d hd=>(g d hd).1) l').mono (by decide) (by decide),FE⟩
 unfold fC
 rw [eK ne,eK ne]
 exact h
def Tm (K:Fg) (H:Hp) (t:Addr) (vs:List V):Prop:=∃ ds,aq K (fC H t t) vs ds/\∀ d∈ds,Gd 5 8000000 d/\vJ d
theorem Tm.nil:Tm K H t []:=⟨[],.nil,fun d hd=>by cases hd⟩
theorem Tm.cons {v:V} (h:Tg K H t v) (M:Tm K H t vs):Tm K H t (v :: vs):=let ⟨d,a,b⟩:=h;let ⟨ds,e,q⟩:=M;⟨d :: ds,.cons a e,fun x hx=>(List.mem_cons.mp hx).elim (fun z=>z ▸ b) (q x)⟩
theorem Tm.st (S:bB t H H') (M:Tm K H t vs):Tm K H' t vs:=let ⟨ds,d,g⟩:=M;⟨ds,aP S d,g⟩
theorem Tm.pick {r:Int} (M:Tm K H t vs) (h0:0≤r) (h1:r < vs.length):∃ v,jm vs r=some v/\Tg K H t v:=by
 obtain⟨ds,a,g⟩:=M
 obtain⟨v,d,e,m,q⟩:=aq.pick a h0 h1
 exact⟨v,e,d,q,g d m⟩
theorem vQ:Tg K H t .non:=⟨_,.non,gW zX,A2 rfl⟩
theorem A9 {i:Int} (h:i.natAbs < 100):Tg K H t (.int i):=⟨_,.int i,gW (xQ h),A2 rfl⟩
theorem A8 {x:Str} (h:Gd 0 5000 (.str x)):Tg K H t (.str x):=⟨_,.str x,gW h,A2 rfl⟩
theorem Bh.ly {i:Nat} {x:V} (B:Bh K H0 H t s pw pp xp ws p) (lok:∀ y∈p,dH ws.length y) (w9:ws.length≤9) (hx:xp[i]?=some x):Tg K H t x:=by
 obtain⟨y,hy,ly⟩:=B.al.at hx
 exact⟨_,(ly.mono (gH B.T.lst)).deep,gW (uf (lok y (List.mem_of_getElem? hy)) w9),Dy y⟩
theorem Bh.whole {a:Addr} (B:Bh K H0 H t s pw pp xp ws p) (lok:∀ y∈p,dH ws.length y) (w9:ws.length≤9) (p26:p.length≤26) (h:aZ K H a [.ref pp]):Tg K H t (.ref a):=by
 refine⟨_,.tup (gH B.T.lst _ _ h) (.cons (.tup (gH B.T.lst _ _ B.hP) ((B.al.mono fun _ _ q=>q.mono (gH B.T.lst)).deep fun _ _ q=>q.deep)) .nil),gW (xS 1 30777 (gC (xS (k:=2) (n:=1180) 26 30766 (fun d hd=>?_) (by rw [List.length_map];exact p26)) gN)),A1 (Nat.le_of_ble_eq_true rfl) (Hy (fun f hf=>?_) Hx)⟩
 ·obtain⟨y,hy,rfl⟩:=List.mem_map.mp hd
  exact uf (lok y hy) w9
 ·obtain⟨y,hy,rfl⟩:=List.mem_map.mp hf
  show 2≤60
  decide
theorem oZ {a b c:Addr} {xa xb:List V} {m n:Nat} (T:∃ xs,H t=some (.lst xs)) (ha:aZ K H a xa) (hb:aZ K H b xb) (fa:Fl K m xa) (fb:Fl K n xb) (hc:aZ K H c [.ref a,.ref b]) (hm:m≤60:=by decide) (hn:n≤60:=by decide):Mn K H t [.ref c]:=by
 obtain⟨la,da,ea,ga⟩:=fa
 obtain⟨lb,db,eb,gb⟩:=fb
 have l1:=ph H la ea hm
 have l2:=ph H lb eb hn
 exact .one (.tup (gH T _ _ hc) (.cons (.tup (gH T _ _ ha) (ea _)) (.cons (.tup (gH T _ _ hb) (eb _)) .nil))) (gW (xS 2 2790 (gC (xS 60 1388 ga l1) (gC (xS 60 1388 gb l2) gN)))) (BG (wz l1 (wz l2 yV)))
theorem so {a:Addr} (T:∃ xs,H t=some (.lst xs)) (ha:aZ K H a []):Mn K H t [.ref a]:=.one (.tup (gH T _ _ ha) .nil) (gW (xS (k:=0) (n:=0) 0 8 gN)) yV
end
theorem eQ.deep {K:Fg} {H:Hp} {v:V} {l:List (List Nat×List Nat)} (h:eQ K H v l):bu K H v (.tuple (l.map uo)):=by
 obtain⟨p,xs,rfl,hS,al⟩:=h
 exact .tup hS (al.deep fun _ _ q=>q.deep)
theorem yn {l:List Nat}:(l.map fun _=>V.bl true).all iz=true:=by
 rw [List.all_map];exact List.all_eq_true.mpr fun _ _=>rfl
theorem sk {l:List Nat}:sF (.bl false) (l.map fun _=>V.bl true)=false:=by
 unfold sF
 rw [List.any_map]
 exact List.any_eq_false.mpr fun _ _ z=>by cases z
theorem xC {K:Fg} {H:Hp} {t s l:Addr} {xs:List V} {pps:List (List Ly)} (tp:bJ K H t s) (h:H l=some (.lst xs)) (al:cL (eQ K H) xs pps):l≠t:=fun z=>by
 subst z
 obtain⟨ns,p,q,e,_⟩:=tp.ex
 rw [h] at e
 cases e
 obtain⟨d,_,pp,_,e,_⟩:=al.at (i:=1) rfl
 cases e
theorem uD {K:Fg} {t:Addr} {H H':Hp} {v:V} {d:PyData} (S:bB t H H') (h:bu K (fC H t t) v d):bu K H' v d:=h.same ((t4 S).trans uc)
theorem Cb {n:Nat} {p:List Ly} (h:jg n p) (hn:n≤9):Gd 5 8000000 (.tuple (p.map uo)):=by
 refine (xS (k:=2) (n:=1180) 26 30766 (fun d hd=>?_) (by rw [List.length_map];exact h.1)).mono (by decide) (by decide)
 obtain⟨y,hy,rfl⟩:=List.mem_map.mp hd
 exact uf (h.2 y hy) hn
theorem B9 {n:Nat} {p:List Ly} (h:jg n p) (hn:n≤9):vJ (.tuple (p.map uo)):=A1 (by rw [List.length_map];have:=h.1;omega) fun e he=>by
 obtain⟨y,hy,rfl⟩:=List.mem_map.mp he
 exact AJ (h.2 y hy) hn
def oz (K:Fg):Sp:=fun vs H Q _=>∃ (a:Addr) (ns:List Int),vs=[.ref a]/\bj K H a (ns.map V.int)/\ns.length≤63/\∀ H',Q (.bl true) H'
def Gb (K:Fg) (t s lw:Addr) (m:Int) (en i:Nat) (r:Int) (H1:Hp):L2.St->Hp->Prop:=fun σ H'=>∃ a b:Nat,σ=[some (.ref t),some (.int m),some (.int en),some (.ref lw),some (.int (i:Nat)),some (.int (a:Nat)),some (.int (b:Nat)),some (.int r)]/\a≤b/\b < 24/\bB t H1 H'/\bJ K H' t s
theorem Bt:aO ["thing"] ["thing"] (ai mV):=eY
theorem Bx:aO ["thing", "length"] ["thing", "length"] (ai nh):=eY
theorem DQ:aO ["thing", "count"] ["thing", "count"] (ai uI):=eY
theorem Bw:aO ["thing", "count"] ["thing", "count"] (ai m7):=eY
theorem Bl:aO ["thing"] ["thing"] (ai mI):=eY
theorem mC:aO ["one", "other", "high", "low", "rest"] ["one", "other"] (ai uQ):=eY
theorem rN:aO ["top", "bottom", "shared"] ["top", "bottom"] (ai mH):=eY
theorem oF:aO ["one", "other", "shared", "top", "rest"] ["one", "other"] (ai mE):=eY
theorem rM:aO ["one", "other", "left", "right"] ["one", "other"] (ai mG):=eY
theorem Bk:aO ["one", "other"] ["one", "other"] (ai mD):=eY
theorem Bo:aO ["one", "other"] ["one", "other"] (ai mN):=eY
theorem iG:aO ["some", "tops", "one", "so_far", "bottom", "top"] ["some"] (ai mF):=eY
theorem DR:aO ["works", "layer"] ["works", "layer"] (ai uL):=eY
theorem DU:aO ["thing", "count"] ["thing", "count"] (ai uO):=eY
theorem DT:aO ["thing", "count"] ["thing", "count"] (ai uN):=eY
theorem kG:aO ["rows", "seen", "number", "row", "part"] ["rows"] (ai ng):=eY
theorem rQ:aO ["works", "paper", "again"] ["works", "paper"] (ai mU):=eY
theorem iH:aO ["works", "paper", "seen", "place", "layer", "turn", "number", "work"] ["works", "paper"] (ai nc):=eY
theorem v7:aO ["works", "paper", "densities", "number"] ["works", "paper"] (ai uK):=eY
theorem DS:aO ["works", "thing"] ["works", "thing"] (ai uM):=eY
theorem Bs:aO ["_law_script"] ["_law_script"] (ai mT):=eY
theorem jt:aO ["_law_tape_here", "_law_many", "_law_spot", "_law_cell", "_law_mixed", "_law_found"] ["_law_tape_here", "_law_many"] (ai mS):=eY
theorem v9:aO ["_law_due", "_law_found"] ["_law_due", "_law_found"] (ai m6):=eY
theorem rP:aO ["_law_top", "_law_bottom", "_law_one_here", "_law_other"] ["_law_top", "_law_bottom"] (ai mR):=eY
theorem Bn:aO ["_law_one_here", "_law_other"] ["_law_one_here", "_law_other"] (ai mM):=eY
theorem Bm:aO ["_law_one_here", "_law_other"] ["_law_one_here", "_law_other"] (ai mL):=eY
theorem Br:aO ["_law_one_here", "_law_other"] ["_law_one_here", "_law_other"] (ai mQ):=eY
theorem oH:aO ["_law_some", "_law_found", "_law_one_here"] ["_law_some"] (ai mK):=eY
theorem eE:aO ["_law_tape_here", "_law_many", "_law_end", "_law_works_here", "_law_k", "_law_first", "_law_last", "_law_way"] ["_law_tape_here", "_law_many"] (ai m5):=eY
theorem Bv:aO ["_law_works_here"] ["_law_works_here"] (ai m4):=eY
theorem fG:aO ["_law_works_here", "_law_left", "_law_units_here", "_law_spans", "_law_number", "_law_places", "_law_best", "_law_begin", "_law_end", "_law_some", "_law_many", "_law_long", "_law_more"] ["_law_works_here", "_law_left"] (ai uH):=eY
theorem ju:aO ["_law_works_here", "_law_left", "_law_found", "_law_layer"] ["_law_works_here"] (ai m9):=eY
theorem Bp:aO ["_law_works_here", "_law_layer"] ["_law_works_here", "_law_layer"] (ai mP):=eY
theorem AD:aO ["_law_thing", "_law_most", "_law_one_here"] ["_law_thing", "_law_most"] (ai uP):=eY
theorem eD:aO ["_law_works_here", "_law_thing", "_law_pair", "_law_word", "_law_n", "_law_ahead", "_law_met", "_law_number"] ["_law_works_here", "_law_thing"] (ai mZ):=eY
theorem oG:aO ["_law_some", "_law_turns", "_law_numbers", "_law_layer"] ["_law_some"] (ai mJ):=eY
theorem kF:aO ["_law_tape_here", "_law_works_here", "_law_found", "_law_papers_here", "_law_at", "_law_spare"] ["_law_tape_here", "_law_works_here"] (ai m8):=eY
theorem v8:aO ["_law_e", "_law_marks_here"] ["_law_e"] (ai mY):=eY
theorem eX:aO ["_law_tape_here", "_law_works_here", "_law_pair", "_law_turns", "_law_numbers", "_law_at", "_law_spot", "_law_other", "_law_some"] ["_law_tape_here", "_law_works_here", "_law_pair"] (ai uJ):=eY
theorem rO:aO ["_law_tape_here", "_law_works_here", "_law_paper", "_law_way", "_law_at"] ["_law_tape_here", "_law_works_here", "_law_paper"] (ai mO):=eY
theorem kD:aO ["_law_works_here", "_law_thing", "_law_told", "_law_e"] ["_law_works_here", "_law_thing"] (ai mX):=eY
theorem kC:aO ["_law_works_here", "_law_thing", "_law_due", "_law_ahead", "_law_found", "_law_marks_here"] ["_law_works_here", "_law_thing"] (ai mW):=eY
theorem js:aO ["_law_script", "_law_tape_here", "_law_k", "_law_works_here", "_law_paper", "_law_things"] ["_law_script"] (ai iW):=eY
theorem Bu:aO ["self", "word", "number"] ["self", "word", "number"] (ai iX):=eY
end My
namespace My
open PySem L2 B PyProof.Rows
section
variable {P:Program} {w:World} {K:Fg} {mg:Str->Option Value} {base:Heap} {t:Ad}
theorem u6 (T:eR K mg t):bK P w K mg base d9 1 t.a_Q16 t.d_Q16 ["_law_due", "_law_found"] (uF K):=by
 refine T.F_Q16.ok v9 (fun vs H Q E h=>?_) (fun cdv A outer s H vs Q E hr h=>?_)
 ·obtain⟨_,_,_,rfl,_⟩:=h;rfl
 obtain⟨v,w,d,rfl,hv,hw,dp,sm,k⟩:=h
 refine dU.ok (ag (bh (gi (im (bV (aj aR (by rfl) T.z_isinstance boot_isinstance (aa (qv 0) (aa (ba (v:=V.ty "tuple") rfl T.z_tuple boot_tuple rfl) ad ac) ac))) (gj (bV (aj aR (by rfl) T.z_isinstance boot_isinstance (aa (qv 0) (aa (ba (v:=V.ty "list") rfl T.z_list boot_list rfl) ad ac) ac)))))) (ag (bh (aH iu (aj aR (by rfl) T.z_isinstance boot_isinstance (aa (qv 0) (aa (ba (v:=V.ty "tuple") rfl T.z_tuple boot_tuple rfl) ad ac) ac)) (aj aR (by rfl) T.z_isinstance boot_isinstance (aa (qv 1) (aa (ba (v:=V.ty "tuple") rfl T.z_tuple boot_tuple rfl) ad ac) ac)) (aK _)) (ah (aC cW)) aE)
   (ag (bh (aH iu (aj aR (by rfl) T.z_isinstance boot_isinstance (aa (qv 0) (aa (ba (v:=V.ty "list") rfl T.z_list boot_list rfl) ad ac) ac)) (aj aR (by rfl) T.z_isinstance boot_isinstance (aa (qv 1) (aa (ba (v:=V.ty "list") rfl T.z_list boot_list rfl) ad ac) ac)) (aK _)) (ah (aC cW)) aE)
   (ag (bh (aH iu (aj ar (by rfl) T.z_len boot_len (aa (qv 0) ad ac)) (aj ar (by rfl) T.z_len boot_len (aa (qv 1) ad ac)) (aK _)) (ah (aC cW)) aE)
   (ah gk)))) aE)
   (ag (bh (aH kQ (qv 0) dM (aK _)) (ah (aC (cG kQ (qv 1) dM (aK _)))) aE)
   (ag (bh (bV (aj aR (by rfl) T.z_isinstance boot_isinstance (aa (qv 0) (aa (ba (v:=V.ty "str") rfl T.z_str boot_str rfl) ad ac) ac))) (ah (aC (dr (aj aR (by rfl) T.z_isinstance boot_isinstance (aa (qv 1) (aa (ba (v:=V.ty "str") rfl T.z_str boot_str rfl) ad ac) ac)) (dW (cG df (qv 1) (qv 0) (aK _)))))) aE)
   (ag (bh (bV (aj aR (by rfl) T.z_isinstance boot_isinstance (aa (qv 0) (aa (ba (v:=V.ty "bool") rfl T.z_bool boot_bool rfl) ad ac) ac))) (ah (aC (dr (aj aR (by rfl) T.z_isinstance boot_isinstance (aa (qv 1) (aa (ba (v:=V.ty "bool") rfl T.z_bool boot_bool rfl) ad ac) ac)) (dW (cG df (qv 1) (qv 0) (aK _)))))) aE)
   (ah (aC (dr (aj aR (by rfl) T.z_isinstance boot_isinstance (aa (qv 1) (aa (ba (v:=V.ty "int") rfl T.z_int boot_int rfl) ad ac) ac)) (dr (r6 (aj aR (by rfl) T.z_isinstance boot_isinstance (aa (qv 1) (aa (ba (v:=V.ty "bool") rfl T.z_bool boot_bool rfl) ad ac) ac))) (dW (cG df (qv 1) (qv 0) (aK _))))))))))) ?_
 try dsimp only [Cx.nox,Cx.wish,bP]
 cases hv with
 | non=>
  cases hw
  refine⟨_,rfl,_,_,_,_,rfl,.non,fh,_,rfl,bS ?_⟩
  refine⟨_,rfl,_,_,_,_,rfl,.non,fK,_,rfl,bS ?_⟩
  refine⟨_,rfl,rfl,_,rfl,cD ?_⟩
  exact⟨_,rfl,rfl,k H (aw.refl H)⟩
 | bl b=>
  cases hw
  refine⟨_,rfl,_,_,_,_,rfl,.bl b,iy,_,rfl,bS ?_⟩
  refine⟨_,rfl,_,_,_,_,rfl,.bl b,i8,_,rfl,bS ?_⟩
  refine⟨_,rfl,rfl,_,rfl,bO (by intro z;cases z) ?_⟩
  refine⟨_,rfl,_,_,_,_,rfl,.bl b,jN,_,rfl,bS ?_⟩
  refine⟨_,rfl,_,_,_,_,rfl,.bl b,eg,_,rfl,cD ?_⟩
  refine⟨_,rfl,_,_,_,_,rfl,.bl b,eg,_,rfl,cD ?_⟩
  have:=k H (aw.refl H)
  exact⟨_,rfl,_,rfl,rfl,by rw [decide_eq_true rfl];exact this⟩
 | int i=>
  cases hw
  refine⟨_,rfl,_,_,_,_,rfl,.int i,i7,_,rfl,bS ?_⟩
  refine⟨_,rfl,_,_,_,_,rfl,.int i,jM,_,rfl,bS ?_⟩
  refine⟨_,rfl,rfl,_,rfl,bO (by intro z;cases z) ?_⟩
  refine⟨_,rfl,_,_,_,_,rfl,.int i,lg,_,rfl,bS ?_⟩
  refine⟨_,rfl,_,_,_,_,rfl,.int i,fg,_,rfl,bS ?_⟩
  refine⟨_,rfl,_,_,_,_,rfl,.int i,lh,_,rfl,cD ?_⟩
  refine⟨_,rfl,_,_,_,_,rfl,.int i,fg,_,rfl,_,rfl,cD ?_⟩
  have:=k H (aw.refl H)
  exact⟨_,rfl,_,rfl,rfl,by rw [decide_eq_true rfl];exact this⟩
 | str x=>
  cases hw
  refine⟨_,rfl,_,_,_,_,rfl,.str x,i6,_,rfl,bS ?_⟩
  refine⟨_,rfl,_,_,_,_,rfl,.str x,jL,_,rfl,bS ?_⟩
  refine⟨_,rfl,rfl,_,rfl,bO (by intro z;cases z) ?_⟩
  refine⟨_,rfl,_,_,_,_,rfl,.str x,fZ,_,rfl,cD ?_⟩
  refine⟨_,rfl,_,_,_,_,rfl,.str x,fZ,_,rfl,cD ?_⟩
  have:=k H (aw.refl H)
  exact⟨_,rfl,_,rfl,rfl,by rw [decide_eq_true rfl];exact this⟩
 | lst e h=>exact absurd dp (Nat.not_succ_le_zero _)
 | tup e h=>exact absurd dp (Nat.not_succ_le_zero _)
theorem Ct (T:eR K mg t):bK P w K mg base d9 1 t.a_Q25 t.d_Q25 ["thing"] (qh K):=by
 refine T.F_Q25.ok Bt (fun vs H Q E h=>?_) (fun cdv A outer s H vs Q E hr h=>?_)
 ·obtain⟨_,_,rfl,_⟩:=h;rfl
 obtain⟨v,d,rfl,hD,k⟩:=h
 obtain⟨b,c,e1,e2,e3⟩:=tX hD
 refine dU.ok (ah (aC (dr (aj aR (by rfl) T.z_isinstance boot_isinstance (aa (qv 0) (aa (ba (v:=V.ty "int") rfl T.z_int boot_int rfl) ad ac) ac)) (dW (r6 (aj aR (by rfl) T.z_isinstance boot_isinstance (aa (qv 0) (aa (ba (v:=V.ty "bool") rfl T.z_bool boot_bool rfl) ad ac) ac))))))) ?_
 try dsimp only [Cx.nox,Cx.wish,bP]
 rw [e3] at k
 refine⟨_,rfl,_,_,_,_,rfl,hD,e1,_,rfl,?_⟩
 cases b with
 | false=>exact k
 | true=>exact⟨_,rfl,_,_,_,_,rfl,hD,e2,_,rfl,k⟩
theorem CG (T:eR K mg t):bK P w K mg base d9 1 t.a_Q10 t.d_Q10 ["thing", "length"] (kx K):=by
 refine T.F_Q10.ok Bx (fun vs H Q E h=>?_) (fun cdv A outer s H vs Q E hr h=>?_)
 ·obtain⟨_,_,_,rfl,_⟩:=h;rfl
 obtain⟨v,d,m,rfl,hD,k⟩:=h
 refine dU.ok (ah (aC (dr (aj aR (by rfl) T.z_isinstance boot_isinstance (aa (qv 0) (aa (ba (v:=V.ty "tuple") rfl T.z_tuple boot_tuple rfl) ad ac) ac)) (dW (cG df (aj ar (by rfl) T.z_len boot_len (aa (qv 0) ad ac)) (qv 1) (aK _)))))) ?_
 try dsimp only [Cx.nox,Cx.wish,bP]
 rcases hU hD with ⟨e,p,xs,ds,rfl,rfl,hS,hA⟩ | ⟨e,no⟩
 ·refine⟨_,rfl,_,_,_,_,rfl,hD,e,_,rfl,?_⟩
  refine⟨_,rfl,p,_,rfl,.inr hS,_,rfl,rfl,?_⟩
  have q:decide ((V.int xs.length:V)=.int m)=uy m (.tuple ds):=by
   show _=decide (ds.length=m)
   rw [hA.len]
   refine decide_eq_decide.mpr ⟨fun z=>by injection z with z;omega,fun z=>by rw [z]⟩
  rw [q]
  exact k
 ·refine⟨_,rfl,_,_,_,_,rfl,hD,e,_,rfl,?_⟩
  rw [yF no] at k
  exact k
theorem Es (T:eR K mg t):bK P w K mg base d9 2 t.a_Q8 t.d_Q8 ["thing", "count"] (jU K):=by
 refine T.F_Q8.ok DQ (fun vs H Q E h=>?_) (fun cdv A outer s H vs Q E hr h=>?_)
 ·obtain⟨_,_,_,rfl,_⟩:=h;rfl
 obtain⟨v,d,m,rfl,hD,k⟩:=h
 refine dU.ok (ah (aC (dr (dA (Ct T) hr T.m_Q25 T.F_Q25.kp T.b_Q25 (aa (qv 0) ad ac)) (dW (wt nz i0 ae (qv 0) (qv 1)))))) ?_
 try dsimp only [Cx.nox,Cx.wish,bP]
 refine⟨_,rfl,v,d,rfl,hD,_,rfl,?_⟩
 cases hw:iB d with
 | false=>
  have e:fX m d=false:=by cases d with | int i=>cases hw | _=>rfl
  rw [e] at k
  exact k
 | true=>
  obtain⟨i,rfl⟩:=kh hw
  cases hD
  have k':Q (.bl (decide (0≤i) && decide (i < m))) H:=k
  refine⟨_,rfl,_,_,rfl,rfl,_,rfl,?_⟩
  by_cases c:0≤i
  ·refine cv c ?_
   rw [decide_eq_true c] at k'
   exact⟨_,rfl,_,_,rfl,rfl,k'⟩
  ·refine bO c ?_
   rw [decide_eq_false c] at k'
   exact k'
theorem xj (T:eR K mg t):bK P w K mg base d9 3 t.a_Q15 t.d_Q15 ["thing", "count"] (oA K):=by
 refine T.F_Q15.ok Bw (fun vs H Q E h=>?_) (fun cdv A outer s H vs Q E hr h=>?_)
 ·obtain⟨_,_,_,rfl,_⟩:=h;rfl
 obtain⟨v,d,m,rfl,hD,hl,k⟩:=h
 refine dU.ok (ag (bh (gi (im (ee (bV (aj aR (by rfl) T.z_isinstance boot_isinstance (aa (qv 0) (aa (ba (v:=V.ty "tuple") rfl T.z_tuple boot_tuple rfl) ad ac) ac)))) (gj (ee (bV (aj (fP rfl) (by rfl) T.z_all boot_all (aa (bR (N':=["part", "count"]) (src:=[none,some 1]) rfl (by exact (cO (qv 0))) (fun _ _ _ _ _=>(by exact (by exact aG (i:=0) (by show List.Nodup (["part", "count"]:List Str);decide +kernel) (by exact rfl) (by first | exact Or.inl rfl | exact Or.inr rfl)))) (fun _ _ _ _ _=>cK) (fun _ _ _ _ _=>(by exact (by exact (dP (Es T) (by exact hr.mono (by decide)) (by exact rfl) T.m_Q8 T.F_Q8.kp T.b_Q8 (by exact .nil) (by exact jK) (aa (by exact (qv 0)) (aa (by exact (qv 1)) ad ac) ac))))) (by exact⟨rfl,rfl,rfl,rfl,trivial⟩) rfl (by decide +kernel) rfl (by decide +kernel) (by exact bz rfl ⟨rfl,trivial⟩)) ad cM))))))) (ah (aC cW)) aE)
   (ah (aC (aj (fP rfl) (by rfl) T.z_all boot_all (aa (bR (N':=["place", "thing"]) (src:=[none,some 0]) rfl (by exact (ej rfl T.z_range (aa ae (aa (aj ar (by rfl) T.z_len boot_len (aa (qv 0) ad ac)) ad ao) ap))) (fun _ _ _ _ _=>(by exact (by exact aG (i:=0) (by show List.Nodup (["place", "thing"]:List Str);decide +kernel) (by exact rfl) (by first | exact Or.inl rfl | exact Or.inr rfl)))) (fun _ _ _ _ _=>cK) (fun _ _ _ _ _=>(by exact (by exact (cG i0 (by exact (cj (bG (K:=K) (by exact rfl)) (by exact (qv 1)) (by exact (aB fS (by exact (qv 0)) ae)) (by exact fun _ _=>rfl))) (by exact (cj (bG (K:=K) (by exact rfl)) (by exact (qv 1)) (by exact (qv 0)) (by exact fun _ _=>rfl))) (aK _))))) (by exact⟨rfl,rfl,rfl,rfl,trivial⟩) rfl (by decide +kernel) rfl (by decide +kernel) (by exact bz rfl ⟨rfl,trivial⟩)) ad cM))))) ?_
 try dsimp only [Cx.nox,Cx.wish,bP]
 rcases hU hD with ⟨e,p,xs,ds,rfl,rfl,hS,hA⟩ | ⟨e,no⟩
 rotate_left
 ·refine⟨_,rfl,_,_,_,_,rfl,hD,e,_,rfl,cD (cD ?_)⟩
  have:=k _ (aw.refl _)
  rw [show jI m d=false by cases d with | tuple ds=>exact absurd rfl (no _) | _=>rfl] at this
  exact this
 refine⟨_,rfl,_,_,_,_,rfl,hD,e,_,rfl,bS ?_⟩
 have len:=hA.len
 have hl':ds.length≤60:=hl
 refine⟨_,rfl,p,rfl,⟨_,hS⟩,fun D hDn=>cH (fR hS) (fun _=>true) (fun i=>V.bl (fX m (ds.getD i .none))) hDn (by omega) (fun i x H' hi s' hx R E kR kE=>?_) fun H1 s1 h1=>?_⟩
 ·obtain⟨v,hv,dv⟩:=aq.atN hA (List.getElem?_eq_getElem (show i < ds.length by omega))
  rw [hx] at hv
  cases hv
  rw [aN PyData.none (List.getElem?_eq_getElem (show i < ds.length by omega))] at kR
  exact⟨ji.set rfl,_,rfl,_,rfl,x,_,m,rfl,dv.same s',kR rfl _ (aw.refl _)⟩
 have e1:(((List.range xs.length).filter fun _=>true).map fun i=>V.bl (fX m (ds.getD i .none)))=((List.range xs.length).map fun i=>fX m (ds.getD i .none)).map V.bl:=by rw [List.filter_eq_self.mpr (fun _ _=>rfl),List.map_map];rfl
 rw [e1] at h1
 have al:((List.range xs.length).map fun i=>fX m (ds.getD i .none)).all id=ds.all (fX m):=by rw [len,qY]
 refine⟨D,_,rfl,bj.of h1,⟨_,rfl,?_⟩⟩
 rw [al]
 cases hn:ds.all (fX m) with
 | false=>
  refine cD ?_
  have:=k _ s1
  rw [show jI m (.tuple ds)=false by show (ds.all (fX m) && _)=false;rw [hn];rfl] at this
  exact this
 | true=>
 refine bS ?_
 obtain⟨ls,rfl,lt⟩:=j7 hn
 cases hZ hA
 have nl:(au ls).length=ls.length:=List.length_map _
 have l24:ls.length≤60:=by rw [List.length_map] at hl';exact hl'
 have en:(((au ls).length:Int) - 1).toNat=ls.length - 1:=by omega
 have hS1:=bn.same (K:=K) s1 _ _ hS
 refine⟨_,rfl,p,_,rfl,.inr hS1,_,_,rfl,?_,fun D2 hD2=>?_⟩
 ·refine⟨by omega,by omega,by omega,by omega⟩
 rw [en]
 refine cH (gT (lo:=1)) (fun _=>true) (fun i=>V.bl (decide (ls.getD i 0 < ls.getD (i+1) 0))) hD2 (by omega) (fun i x H' hi s' hx R E kR kE=>?_) fun H4 s4 h4=>?_
 ·subst hx
  have h2:=bn.same (K:=K) s' _ _ hS1
  have a1:ls[i]?=some (ls[i]'(by omega)):=List.getElem?_eq_getElem _
  have a2:ls[i+1]?=some (ls[i+1]'(by omega)):=List.getElem?_eq_getElem _
  have b1:(au ls)[i]?=some (V.int (ls[i]'(by omega):Nat)):=by unfold au;rw [List.getElem?_map,a1];rfl
  have b2:(au ls)[i+1]?=some (V.int (ls[i+1]'(by omega):Nat)):=by unfold au;rw [List.getElem?_map,a2];rfl
  rw [aN 0 a1,aN 0 a2] at kR
  have c1:jm (au ls) (1+(i:Int) - 1)=some (V.int (ls[i]'(by omega):Nat)):=by rw [show 1+(i:Int) - 1=((i:Nat):Int) by omega];exact bv b1
  have c2:jm (au ls) (1+(i:Int))=some (V.int (ls[i+1]'(by omega):Nat)):=by rw [show 1+(i:Int)=((i+1:Nat):Int) by omega];exact bv b2
  refine⟨ji.set rfl,_,rfl,_,rfl,_,_,rfl,rfl,p,_,_,_,rfl,rfl,h2,c1,_,rfl,_,rfl,p,_,_,_,rfl,rfl,h2,c2,_,_,rfl,rfl,?_⟩
  have:=kR rfl H' (aw.refl _)
  dsimp only
  rw [show decide (((ls[i]'(by omega):Nat):Int) < ((ls[i+1]'(by omega):Nat):Int))=decide ((ls[i]'(by omega):Nat) < ls[i+1]'(by omega)) from decide_eq_decide.mpr (by omega)]
  exact this
 rw [List.filter_eq_self.mpr (fun _ _=>rfl)] at h4
 refine⟨D2,(List.range (ls.length - 1)).map fun i=>decide (ls.getD i 0 < ls.getD (i+1) 0),rfl,bj.of (by rw [List.map_map];exact h4),?_⟩
 have:=k _ (s1.trans s4)
 rw [show jI m (.tuple (ls.map fun n:Nat=>PyData.int n))=oI ls by show (_ && oI _)=_;rw [hn,j8];rfl] at this
 rw [List.all_map]
 exact this
theorem xc (T:eR K mg t):bK P w K mg base d9 1 t.a_Q43 t.d_Q43 ["thing"] (uE K):=by
 refine T.F_Q43.ok Bl (fun vs H Q E h=>?_) (fun cdv A outer s H vs Q E hr h=>?_)
 ·obtain⟨_,rfl,_⟩:=h;rfl
 obtain⟨v,rfl,hv,k⟩:=h
 refine dU.ok (ag (bh (bV (aj fO (by rfl) T.z_isinstance boot_isinstance (aa (qv 0) (aa (ba (v:=V.ty "list") rfl T.z_list boot_list rfl) ad ac) ac))) (ah gk) aE)
   (ag (bh (bV (aj fO (by rfl) T.z_isinstance boot_isinstance (aa (qv 0) (aa (ba (v:=V.ty "tuple") rfl T.z_tuple boot_tuple rfl) ad ac) ac))) (ah gk) aE)
   (ah (aC (qv 0))))) ?_
 try dsimp only [Cx.nox,Cx.wish,bP]
 rcases hv with ⟨i,rfl⟩ | ⟨x,rfl⟩
 ·refine⟨_,rfl,_,_, "int", false,rfl,.int i,by decide +kernel,false,rfl,bS ?_⟩
  refine⟨_,rfl,_,_, "int", false,rfl,.int i,by decide +kernel,false,rfl,bS ?_⟩
  exact⟨_,rfl,k⟩
 ·refine⟨_,rfl,_,_, "str", false,rfl,.str x,by decide +kernel,false,rfl,bS ?_⟩
  refine⟨_,rfl,_,_, "str", false,rfl,.str x,by decide +kernel,false,rfl,bS ?_⟩
  exact⟨_,rfl,k⟩
theorem qt (T:eR K mg t):bK P w K mg base d9 1 t.a_Q0 t.d_Q0 ["one", "other"] (ie K):=by
 refine T.F_Q0.ok mC (fun vs H Q E h=>?_) (fun cdv A outer s H vs Q E hr h=>?_)
 ·obtain⟨_,_,rfl,_⟩:=h;rfl
 obtain⟨a,b,rfl,k⟩:=h
 refine dU.ok (ag (cV 2 mC.nd (aj lH (by rfl) T.z_abs boot_abs (aa (qv 0) ad ac)))
   (ag (cV 3 mC.nd (aj lH (by rfl) T.z_abs boot_abs (aa (qv 1) ad ac)))
   (ag (kI PassesOwn.never (aH iu (qv 3) ae (aK _))
   (ag (cV 4 mC.nd (aB fU (qv 2) (qv 3)))
   (ag (cV 2 mC.nd (qv 3))
   (ah (cV 3 mC.nd (qv 4))))))
   (ah (aC (qv 2)))))) ?_
 try dsimp only [Cx.nox,Cx.wish,bP]
 refine⟨_,rfl,_,rfl,_,rfl,_,rfl,?_⟩
 rw [sP,sP]
 refine⟨fun m σ H'=>∃ (x y:Int) (v:Option V),σ=[some (.int a),some (.int b),some (.int x),some (.int y),v]/\H'=H/\0≤x/\0≤y/\Int.gcd x y=Int.gcd a b/\m=y.toNat,⟨_,_,_,_,rfl,rfl,by omega,by omega,(by simp [Int.gcd]),rfl⟩,?_⟩
 rintro m σ H' ⟨x,y,v,rfl,rfl,hx,hy,hg,rfl⟩
 refine⟨_,rfl,rfl,_,rfl,?_⟩
 by_cases c:y=0
 ·subst c
  refine f9 rfl ?_
  rw [← hg] at k
  refine⟨_,rfl,?_⟩
  have e:(x:Int)=(Int.gcd x 0:Nat):=by simp [Int.gcd];omega
  rw [← e] at k
  exact k
 ·refine lz (fun z=>c (by injection z)) ?_
  refine⟨_,fun _ _ z=>z,?_⟩
  refine⟨_,rfl,_,rfl,_,_,rfl,rfl,(by omega),_,rfl,_,rfl,?_⟩
  refine⟨_,?_,y,x % y,_,rfl,rfl,hy,Int.emod_nonneg _ c,?_,rfl⟩
  ·have:=Int.emod_lt_of_pos x (show 0 < y by omega)
   have:=Int.emod_nonneg x c
   omega
  ·rw [qJ hx (by omega),hg]
theorem w8 (T:eR K mg t):bK P w K mg base d9 2 t.a_Q47 t.d_Q47 ["top", "bottom"] (v1 K):=by
 refine T.F_Q47.ok rN (fun vs H Q E h=>?_) (fun cdv A outer s H vs Q E hr h=>?_)
 ·obtain⟨_,_,rfl,_⟩:=h;rfl
 obtain⟨a,b,rfl,hb,hz,k⟩:=h
 refine dU.ok (ag (bh (aH df (qv 1) ae (aK _)) (ah gk) aE)
   (ag (cV 2 rN.nd (dA (qt T) hr T.m_Q0 T.F_Q0.kp T.b_Q0 (aa (qv 0) (aa (qv 1) ad ac) ac)))
   (ag (bh (aH i0 (qv 1) ae (aK _)) (ah (cV 2 rN.nd (fH dJ (qv 2)))) aE)
   (ah (aC (az (aa (aB tO (qv 0) (qv 2)) (aa (aB tO (qv 1) (qv 2)) ad aX) aX))))))) ?_
 try dsimp only [Cx.nox,Cx.wish,bP]
 have gp:=qK (a:=a) hb
 have gb:=zZ (a:=a) hb hz
 refine⟨_,rfl,rfl,_,rfl,?_⟩
 refine bO (fun z=>by injection z with z;omega) ?_
 refine⟨_,rfl,_,rfl,a,b,rfl,?_⟩
 refine⟨_,rfl,_,_,rfl,rfl,_,rfl,?_⟩
 by_cases hn:b < 0
 ·refine cv hn ?_
  rw [← xz hn] at k
  have gm:(-((Int.gcd a b:Nat):Int)).natAbs < 2 ^ 4000:=by rw [Int.natAbs_neg];exact gb
  refine⟨_,rfl,_,rfl,?_⟩
  refine⟨_,rfl,_,rfl,_,_,rfl,rfl,⟨by omega,gm⟩,_,rfl,_,rfl,_,_,rfl,rfl,⟨by omega,gm⟩,dE,fun p hp=>?_⟩
  exact k p hp
 ·refine bO hn ?_
  rw [← xy (by omega:0 < b)] at k
  refine⟨_,rfl,_,rfl,_,_,rfl,rfl,⟨by omega,gb⟩,_,rfl,_,rfl,_,_,rfl,rfl,⟨by omega,gb⟩,dE,fun p hp=>?_⟩
  exact k p hp
theorem Cj (T:eR K mg t):bK P w K mg base d9 2 t.a_Q50 t.d_Q50 ["one", "other"] (tF K):=by
 refine T.F_Q50.ok oF (fun vs H Q E h=>?_) (fun cdv A outer s H vs Q E hr h=>?_)
 ·obtain⟨_,_,_,_,_,_,rfl,_⟩:=h;rfl
 obtain⟨v,w,r,q,n,m,rfl,hv,hw,wr,wq,hz,k⟩:=h
 refine dU.ok (ag (cV 2 oF.nd (dA (qt T) hr T.m_Q0 T.F_Q0.kp T.b_Q0 (aa (bX ay (qv 0) ae) (aa (bX ay (qv 1) ae) ad aD) aD)))
   (ag (cV 3 oF.nd (aB cI (aB cX (bX ay (qv 0) ae) (aB eG (bX ay (qv 1) ae) (qv 2))) (aB cX (bX ay (qv 1) ae) (aB eG (bX ay (qv 0) ae) (qv 2)))))
   (ag (cV 4 oF.nd (dA (qt T) hr T.m_Q0 T.F_Q0.kp T.b_Q0 (aa (qv 3) (aa (qv 2) ad ac) ac)))
   (ah (aC (az (aa (aB eG (qv 3) (qv 4)) (aa (aB cX (aB eG (bX ay (qv 0) ae) (qv 2)) (aB eG (bX ay (qv 1) ae) (qv 4))) ad aX) aX))))))) ?_
 try dsimp only [Cx.nox,Cx.wish,bP]
 obtain⟨p,rfl,hv⟩:=hv
 obtain⟨p',rfl,hw⟩:=hw
 have c1:=bI wr.top (show n≤4000 by omega)
 have c2:=bI wr.bot (show n≤4000 by omega)
 have c3:=bI wq.top (show m≤4000 by omega)
 have c4:=bI wq.bot (show m≤4000 by omega)
 have gp:(0:Int) < (Int.gcd r.2 q.2:Nat):=bY wq.pos
 have gb:=lC (a:=r.2) wq.pos c4
 refine⟨_,rfl,p,_,_,_,rfl,rfl,hv,rfl,_,rfl,p',_,_,_,rfl,rfl,hw,rfl,r.2,q.2,rfl,?_⟩
 have z:=wJ ⟨wr.pos,wr.cop⟩ ⟨wq.pos,wq.cop⟩
 have kk:va H Q (qp r q):=by rw [z];exact k
 unfold qp at kk
 simp only at kk
 generalize ((Int.gcd r.2 q.2:Nat):Int)=d at gp gb kk ⊢
 refine⟨_,rfl,p,_,_,_,rfl,rfl,hv,rfl,_,rfl,p',_,_,_,rfl,rfl,hw,rfl,_,rfl,_,_,rfl,rfl,⟨gp,gb⟩,_,_,rfl,rfl,⟨c1,gJ gp c4⟩,_,rfl,p',_,_,_,rfl,rfl,hw,rfl,_,rfl,p,_,_,_,rfl,rfl,hv,rfl,_,rfl,_,_,rfl,rfl,⟨gp,gb⟩,_,_,rfl,rfl,⟨c3,gJ gp c2⟩,_,_,rfl,rfl,?_⟩
 refine⟨_,rfl,_,rfl,_,_,rfl,?_⟩
 have ep:(0:Int) < (Int.gcd (r.1 * (q.2 / d)+q.1 * (r.2 / d)) d:Nat):=bY gp
 have eb:=lC (a:=r.1 * (q.2 / d)+q.1 * (r.2 / d)) gp gb
 generalize ((Int.gcd (r.1 * (q.2 / d)+q.1 * (r.2 / d)) d:Nat):Int)=e at ep eb kk ⊢
 refine⟨_,rfl,_,rfl,_,_,rfl,rfl,⟨ep,eb⟩,_,rfl,p,_,_,_,rfl,rfl,hv,rfl,_,rfl,_,_,rfl,rfl,⟨gp,gb⟩,_,rfl,p',_,_,_,rfl,rfl,hw,rfl,_,rfl,_,_,rfl,rfl,⟨ep,eb⟩,_,_,rfl,rfl,⟨gJ gp c2,gJ ep c4⟩,dE,kk⟩
theorem Cl (T:eR K mg t):bK P w K mg base d9 2 t.a_Q48 t.d_Q48 ["one", "other"] (pZ K):=by
 refine T.F_Q48.ok rM (fun vs H Q E h=>?_) (fun cdv A outer s H vs Q E hr h=>?_)
 ·obtain⟨_,_,_,_,_,_,rfl,_⟩:=h;rfl
 obtain⟨v,w,r,q,n,m,rfl,hv,hw,wr,wq,hz,k⟩:=h
 refine dU.ok (ag (cV 2 rM.nd (dA (qt T) hr T.m_Q0 T.F_Q0.kp T.b_Q0 (aa (bX ay (qv 0) ae) (aa (bX ay (qv 1) ae) ad aD) aD)))
   (ag (cV 3 rM.nd (dA (qt T) hr T.m_Q0 T.F_Q0.kp T.b_Q0 (aa (bX ay (qv 1) ae) (aa (bX ay (qv 0) ae) ad aD) aD)))
   (ah (aC (az (aa (aB cX (aB eG (bX ay (qv 0) ae) (qv 2)) (aB eG (bX ay (qv 1) ae) (qv 3))) (aa (aB cX (aB eG (bX ay (qv 0) ae) (qv 3)) (aB eG (bX ay (qv 1) ae) (qv 2))) ad aX) aX)))))) ?_
 try dsimp only [Cx.nox,Cx.wish,bP]
 obtain⟨p,rfl,hv⟩:=hv
 obtain⟨p',rfl,hw⟩:=hw
 have c1:=bI wr.top (show n≤4000 by omega)
 have c2:=bI wr.bot (show n≤4000 by omega)
 have c3:=bI wq.top (show m≤4000 by omega)
 have c4:=bI wq.bot (show m≤4000 by omega)
 have lp:(0:Int) < (Int.gcd r.1 q.2:Nat):=bY wq.pos
 have lb:=lC (a:=r.1) wq.pos c4
 have mp:(0:Int) < (Int.gcd q.1 r.2:Nat):=bY wr.pos
 have mb:=lC (a:=q.1) wr.pos c2
 have z:=uA ⟨wr.pos,wr.cop⟩ ⟨wq.pos,wq.cop⟩
 have kk:va H Q (ko r q):=by rw [z];exact k
 unfold ko at kk
 simp only at kk
 refine⟨_,rfl,p,_,_,_,rfl,rfl,hv,rfl,_,rfl,p',_,_,_,rfl,rfl,hw,rfl,r.1,q.2,rfl,_,rfl,p',_,_,_,rfl,rfl,hw,rfl,_,rfl,p,_,_,_,rfl,rfl,hv,rfl,q.1,r.2,rfl,?_⟩
 generalize ((Int.gcd r.1 q.2:Nat):Int)=l at lp lb kk ⊢
 generalize ((Int.gcd q.1 r.2:Nat):Int)=m' at mp mb kk ⊢
 refine⟨_,rfl,p,_,_,_,rfl,rfl,hv,rfl,_,rfl,_,_,rfl,rfl,⟨lp,lb⟩,_,rfl,p',_,_,_,rfl,rfl,hw,rfl,_,rfl,_,_,rfl,rfl,⟨mp,mb⟩,_,_,rfl,rfl,⟨gJ lp c1,gJ mp c3⟩,_,rfl,p,_,_,_,rfl,rfl,hv,rfl,_,rfl,_,_,rfl,rfl,⟨mp,mb⟩,_,rfl,p',_,_,_,rfl,rfl,hw,rfl,_,rfl,_,_,rfl,rfl,⟨lp,lb⟩,_,_,rfl,rfl,⟨gJ mp c2,gJ lp c4⟩,dE,kk⟩
theorem Ci (T:eR K mg t):bK P w K mg base d9 3 t.a_Q51 t.d_Q51 ["one", "other"] (yI K):=by
 refine T.F_Q51.ok Bk (fun vs H Q E h=>?_) (fun cdv A outer s H vs Q E hr h=>?_)
 ·obtain⟨_,_,_,_,_,_,rfl,_⟩:=h;rfl
 obtain⟨v,w,r,q,n,m,rfl,hv,hw,wr,wq,hz,hq,k⟩:=h
 refine dU.ok (ag (bh (aH df (bX ay (qv 1) ae) ae (aK _)) (ah gk) aE)
   (ah (aC (dA (Cl T) hr T.m_Q48 T.F_Q48.kp T.b_Q48 (aa (qv 0) (aa (dA (w8 T) hr T.m_Q47 T.F_Q47.kp T.b_Q47 (aa (bX ay (qv 1) ae) (aa (bX ay (qv 1) ae) ad aD) aD)) ad ao) ac))))) ?_
 try dsimp only [Cx.nox,Cx.wish,bP]
 obtain⟨p',rfl,hw⟩:=hw
 refine⟨_,rfl,p',_,_,_,rfl,rfl,hw,rfl,rfl,_,rfl,?_⟩
 refine bO (fun z=>by injection z with z;exact hq z) ?_
 refine⟨_,rfl,_,rfl,p',_,_,_,rfl,rfl,hw,rfl,_,rfl,p',_,_,_,rfl,rfl,hw,rfl,q.2,q.1,rfl,hq,bI wq.top (by omega),fun ps hps=>?_⟩
 have s1:=ak hps (.tup [.int (j9 q.2 q.1).1,.int (j9 q.2 q.1).2])
 refine⟨v,.ref ps,r,j9 q.2 q.1,n,m,rfl,hv.mono (bn.same s1),RV.of af,wr,CK hq wq.bot wq.top,hz,fun p hp=>?_⟩
 refine k _ _ (s1.trans (ak hp _)) ?_
 rw [← zw ⟨wr.pos,wr.cop⟩ hq]
 exact RV.of af
theorem Cp (T:eR K mg t):bK P w K mg base d9 1 t.a_Q33 t.d_Q33 ["one", "other"] (ky K):=by
 refine T.F_Q33.ok Bo (fun vs H Q E h=>?_) (fun cdv A outer s H vs Q E hr h=>?_)
 ·obtain⟨_,_,_,_,_,_,rfl,_⟩:=h;rfl
 obtain⟨v,w,r,q,n,m,rfl,hv,hw,wr,wq,hz,k⟩:=h
 refine dU.ok (ah (aC (cG i0 (aB cX (bX ay (qv 0) ae) (bX ay (qv 1) ae)) (aB cX (bX ay (qv 1) ae) (bX ay (qv 0) ae)) (aK _)))) ?_
 try dsimp only [Cx.nox,Cx.wish,bP]
 obtain⟨p,rfl,hv⟩:=hv
 obtain⟨p',rfl,hw⟩:=hw
 have c1:=bI wr.top (show n≤4000 by omega)
 have c2:=bI wr.bot (show n≤4000 by omega)
 have c3:=bI wq.top (show m≤4000 by omega)
 have c4:=bI wq.bot (show m≤4000 by omega)
 refine⟨_,rfl,p,_,_,_,rfl,rfl,hv,rfl,_,rfl,p',_,_,_,rfl,rfl,hw,rfl,_,_,rfl,rfl,⟨c1,c4⟩,_,rfl,p',_,_,_,rfl,rfl,hw,rfl,_,rfl,p,_,_,_,rfl,rfl,hv,rfl,_,_,rfl,rfl,⟨c3,c2⟩,_,_,rfl,rfl,k⟩
theorem Ck (T:eR K mg t):bK P w K mg base d9 3 t.a_Q49 t.d_Q49 ["some"] (vY K):=by
 refine T.F_Q49.ok iG (fun vs H Q E h=>?_) (fun cdv A outer s H vs Q E hr h=>?_)
 ·obtain⟨_,_,_,_,_,rfl,_⟩:=h;rfl
 obtain⟨a,xs,rs,n,D₀,rfl,hS,hR,hWD,h0,hDn₀,hlen,hn,k⟩:=h
 refine dU.ok (ag (cV 1 iG.nd kJ)
   (ag (bZ PassesOwn.never rfl (BF (qv 0)) (aG (i:=2) iG.nd rfl (by first | exact Or.inl rfl | exact Or.inr rfl))
   (ah (oN (nI hr) (qv 1) (bX ay (qv 2) ae) (aB cI (wm (nI hr) (qv 1) (bX ay (qv 2) ae) ae ⟨rfl,rfl,rfl,rfl⟩) (bX ay (qv 2) ae)) rfl)))
   (ag (cV 3 iG.nd (dN (v:=.ref t.c_NOUGHT) rfl T.m_NOUGHT rfl))
   (ag (bZ PassesOwn.never rfl (wg (qv 1)) (jw rfl (cT (aG (i:=4) iG.nd rfl (by first | exact Or.inl rfl | exact Or.inr rfl)) (cT (aG (i:=5) iG.nd rfl (by first | exact Or.inl rfl | exact Or.inr rfl)) gY)))
   (ah (cV 3 iG.nd (dA (Cj T) hr T.m_Q50 T.F_Q50.kp T.b_Q50 (aa (qv 3) (aa (dA (w8 T) hr T.m_Q47 T.F_Q47.kp T.b_Q47 (aa (qv 5) (aa (qv 4) ad ac) ac)) ad ao) ac)))))
   (ah (aC (qv 3))))))) ?_
 try dsimp only [Cx.nox,Cx.wish,bP]
 refine fun D hDn=>⟨_,rfl,?_⟩
 have sD:=ak hDn (.dK [])
 rcases hS with hS | hS
 refine .inl ⟨a,rfl,⟨_,sD.seq hS⟩,gI (K:=K) (a:=a) (xs:=xs) (fun i σ H'=>∃ (x:Option V) (ps:List (Int×Int)),σ=[some (.ref a),some (.ref D),x,none,none,none]/\aw H H'/\H' D=some (.dK (sI ps))/\jY n i ps/\(∀ p∈ps,p.1∣(D₀:Int))/\iU ps=jR (rs.take i)) ⟨none,[],rfl,sD,af,jY.nil n,(fun _ h=>nomatch h),rfl⟩ (fun i σ H1 _ ⟨_,_,_,s1,_⟩=>s1.seq hS) ?_ ?_⟩
 rotate_left 2
 refine .inr ⟨a,rfl,⟨_,bn.same sD _ _ hS⟩,fj (K:=K) (a:=a) (xs:=xs) (fun i σ H'=>∃ (x:Option V) (ps:List (Int×Int)),σ=[some (.ref a),some (.ref D),x,none,none,none]/\aw H H'/\H' D=some (.dK (sI ps))/\jY n i ps/\(∀ p∈ps,p.1∣(D₀:Int))/\iU ps=jR (rs.take i)) ⟨none,[],rfl,sD,af,jY.nil n,(fun _ h=>nomatch h),rfl⟩ (fun i σ H1 _ ⟨_,_,_,s1,_⟩=>bn.same s1 _ _ hS) ?_ ?_⟩
 all_goals first
  | (
   rintro i y σ H1 hi ⟨x,ps,rfl,s1,hD1,ok,dv,ev⟩
   obtain⟨ry,hry,hyv⟩:=hR.at hi
   have my:ry∈rs:=List.mem_of_getElem? hry
   have hil:=(List.getElem?_eq_some_iff.mp hry).1
   obtain⟨py,rfl,hSy⟩:=hyv.mono (bn.same s1)
   have el:(sI ps).length=ps.length:=List.length_map _
   have hlp:(sI ps).length < sizeLine:=by rw [el];exact cF (by have:=ok.len;omega)
   refine⟨_,rfl,D,rfl,.inl ⟨_,.inl hD1⟩,_,rfl,py,_,_,_,rfl,rfl,hSy,rfl,_,jH.k (k:=Sum.inl ry.2) hD1,_,rfl,py,_,_,_,rfl,rfl,hSy,rfl,uz ps ry.2,ry.1,ue ps ry.2,rfl,_,rfl,_,rfl,py,_,_,_,rfl,rfl,hSy,rfl,D,_,rfl,rc.k (k:=Sum.inl ry.2) hD1 hlp,?_⟩
   refine⟨_,fQ ps ry.2 ry.1,rfl,fun b o q=>?_,?_,ok.add (hWD ry my).1,Ak (i:=0) (n:=0) dv (hWD ry my).2,?_⟩
   ·rw [aJ (aV q hDn)]
    exact s1 b o q
   ·rw [tM ps _ _ ok.nd]
    exact af
   ·rw [pX,ev,List.take_add_one,hry]
    exact (me _ _).symm)
  | (
   rintro σ H1 ⟨x,ps,rfl,s1,hD1,ok,dv,ev⟩
   rw [hR.1,List.take_length] at ev
   rw [hR.1] at ok
   refine⟨_,rfl,D,sI ps,rfl,hD1,fun ob=>vi (d:=D) (ob:=ob) (kvs:=sI ps) (fun j σ H'=>∃ (u:V) (acc:R) (y4 y5:Option V),σ=[some (.ref a),some (.ref D),x,some u,y4,y5]/\aw H H'/\H' D=some (.frz ob (.dK (sI ps)))/\RV K H' u acc/\Bq D₀ (64 * 2 ^ n * j) acc/\val acc=iU (ps.take j)) ⟨_,(0,1),none,none,rfl,?_,af,⟨_,rfl,T.q_NOUGHT _⟩,⟨by decide,by decide,⟨(D₀:Int),by show (D₀:Int)=1 * D₀;omega⟩,by show 0≤_;exact Nat.zero_le _⟩,kj⟩ (fun i σ H1 ⟨_,_,_,_,_,_,z,_⟩=>z) ?_ ?_⟩
   ·intro b o q
    rw [aJ (aV q hDn)]
    exact s1 b o q
   ·rintro j kk v p σ H2 hkv ⟨u,acc,y4,y5,rfl,s2,hD2,r2,w2,ev2⟩ hp
    have hkv':(ps.map fun p=>((Sum.inl p.1:cZ),V.int p.2))[j]?=some (kk,v):=hkv
    rw [List.getElem?_map] at hkv'
    obtain⟨q,hq,e⟩:=Option.map_eq_some_iff.mp hkv'
    cases e
    have mq:=List.mem_of_getElem? hq
    have hjl:=(List.getElem?_eq_some_iff.mp hq).1
    have wq:=ok.wf (by omega) mq
    have lps:=ok.len
    have gq:=C0 ok dv hlen mq
    have wa:=Df w2 (by omega) h0 hDn₀
    have bq:=ok.bot q mq
    have e1:=ak hp (.tup [kV (Sum.inl q.1),V.int q.2])
    refine⟨p,_,rfl,aZ.of af,rfl,_,_,rfl,_,_,rfl,rfl,?_⟩
    refine⟨_,rfl,_,rfl,_,rfl,q.2,q.1,rfl,(by have:=bq.1;omega),bI bq.2 (by omega),fun p1 g1=>?_⟩
    rw [o1 bq.1]
    have e2:=ak g1 (.tup [.int (fe q.2 q.1).1,.int (fe q.2 q.1).2])
    refine⟨u,.ref p1,acc,fe q.2 q.1,2 * n+12,n+8,rfl,(r2.mono (bn.same e1)).mono (bn.same e2),RV.of af,wa,wq,by omega,fun p2 g2=>?_⟩
    have e3:=ak g2 (.tup [.int (de acc (fe q.2 q.1)).1,.int (de acc (fe q.2 q.1)).2])
    have s3:=((e1.trans e2).trans e3)
    refine⟨_,de acc (fe q.2 q.1),_,_,rfl,s2.trans s3,s3 _ _ hD2,RV.of af,(by rw [Nat.mul_succ];exact Bq.plus h0 w2 gq),?_⟩
    rw [pN w2.pos wq.pos,vK bq.1,ev2,List.take_add_one,hq]
    exact (mw _ _).symm
   ·rintro σ H2 ⟨u,acc,y4,y5,rfl,s2,hD2,r2,w2,ev2⟩
    have el:(sI ps).length=ps.length:=List.length_map _
    rw [el,List.take_length] at ev2
    have es:=Bb (fun r hr=>(hWD r hr).1.red) w2.red (ev2.trans ev)
    rw [es] at r2
    exact⟨_,rfl,k u H2 s2 r2⟩)
theorem Ev (T:eR K mg t):bK P w K mg base d9 4 t.a_Q5 t.d_Q5 ["works", "layer"] (fE K):=by
 refine T.F_Q5.ok DR (fun vs H Q E h=>?_) (fun cdv A outer s H vs Q E hr h=>?_)
 ·obtain⟨_,_,_,_,rfl,_⟩:=h;rfl
 obtain⟨v,x,ws,y,rfl,⟨p,xs,rfl,hS,al⟩,hw,ok,lv,lok,k⟩:=h
 refine dU.ok (ah (aC (dA (Ci T) hr T.m_Q51 T.F_Q51.kp T.b_Q51 (aa (dA (Ck T) hr T.m_Q49 T.F_Q49.kp T.b_Q49 (aa (bR (N':=["number", "works"]) (src:=[none,some 0]) rfl (by exact (cO (cj ay (qv 1) ae (fun _ _=>rfl)))) (fun _ _ _ _ _=>(by exact (by exact aG (i:=0) (by show List.Nodup (["number", "works"]:List Str);decide +kernel) (by exact rfl) (by first | exact Or.inl rfl | exact Or.inr rfl)))) (fun _ _ _ _ _=>cK) (fun _ _ _ _ _=>(by exact (by exact (cj (bG (K:=K) (by exact rfl)) (by exact (cj (bG (K:=K) (by exact rfl)) (by exact (qv 1)) (by exact (qv 0)) (by exact fun _ _=>rfl))) ae (by exact fun _ _=>rfl))))) (by exact⟨rfl,rfl,rfl,rfl,trivial⟩) rfl (by decide +kernel) rfl (by decide +kernel) (by exact bz rfl ⟨rfl,trivial⟩)) ad cM)) (aa (az (aa (aj ar (by rfl) T.z_len boot_len (aa (cj ay (qv 1) ae (fun _ _=>rfl)) ad aD)) (aa ae ad ap) ao)) ad aF) ao)))) ?_
 try dsimp only [Cx.nox,Cx.wish,bP]
 have hSl:=al.len
 obtain⟨pL,a,b,rfl,hpL,ha,hb⟩:=lv
 have nb:(au y.2).length=y.2.length:=List.length_map _
 have na:(au y.1).length=y.1.length:=List.length_map _
 have len:=lok.len
 refine⟨_,rfl,pL,_,_,_,rfl,rfl,hpL,rfl,b,rfl,⟨_,hb⟩,fun D hD=>fM (K:=K) (P:=RV K) (ds:=y.2) (f:=fun i=>(ws.getD i rg).2.2) (fun _ _ _ _ t p=>p.mono t) hD hb nb (by omega) (fun i x d H' hx hd s' R E kR=>?_) fun H2 ys2 s2 hD2 al2=>?_⟩
 ·have hx':(au y.2)[i]?=some (V.int (d:Nat)):=by unfold au;rw [List.getElem?_map,hd];rfl
  rw [hx] at hx'
  cases hx'
  have hdl:=lok.num d (List.mem_of_getElem? hd)
  obtain⟨xw,hxw⟩:∃ xw,xs[d]?=some xw:=⟨_,List.getElem?_eq_getElem (by omega)⟩
  obtain⟨w,hwd,pw,xa,rfl,hSw,rx⟩:=al.at hxw
  rw [aN rg hwd] at kR
  have t':=bn.same (K:=K) s'
  exact⟨ji.set rfl,_,rfl,_,rfl,p,_,_,_,rfl,rfl,t' _ _ hS,bv hxw,pw,_,_,_,rfl,rfl,t' _ _ hSw,rfl,kR _ _ (aw.refl _) (rx.mono t')⟩
 have wf:=ym (n:=ws.length) ok lok
 have la:(jE ws y).length=y.2.length:=List.length_map _
 refine⟨D,ys2,jE ws y,8,84,rfl,.inl (bj.of hD2),Ai al2,(fun r hr=>⟨(wf r hr).mono (by decide),?_⟩),by decide,by decide,by omega,by decide,fun v' H3 s3 rv3=>?_⟩
 ·obtain⟨i,hi,rfl⟩:=List.mem_map.mp hr
  have hl:=lok.num i hi
  rw [aN rg (List.getElem?_eq_getElem hl)]
  exact (ok _ (List.getElem_mem hl)).am.dvd
 have t23:=bn.same (K:=K) (s2.trans s3)
 refine⟨_,rfl,pL,_,_,_,rfl,rfl,t23 _ _ hpL,rfl,a,_,rfl,.inr (t23 _ _ ha),dE,fun pt hpt=>?_⟩
 rw [na]
 have s4:=ak hpt (.tup [.int (y.1.length:Int),.int 1])
 have pos:=lok.pos
 have few:=lok.few
 have wo:Wf 6 (((y.1.length:Int),1):R):=⟨by show (0:Int) < 1;decide,by show ((y.1.length:Int)).natAbs < 64;omega,by show (1:Int).natAbs < 64;decide,by show Int.gcd (y.1.length:Int) 1=1;simp⟩
 have ws_:=tw wf
 refine⟨v',.ref pt,ge (jE ws y),((y.1.length:Int),1),1+(4+1) * (jE ws y).length,6,rfl,rv3.mono (bn.same s4),RV.of af,ws_,wo,by omega,by show (y.1.length:Int)≠0;omega,fun u H5 s5 r5=>?_⟩
 rw [wZ ws_.pos pos] at r5
 exact k u H5 (((s2.trans s3).trans s4).trans s5) r5
theorem Ey (T:eR K mg t):bK P w K mg base d9 4 t.a_Q2 t.d_Q2 ["thing", "count"] (iE K):=by
 refine T.F_Q2.ok DU (fun vs H Q E h=>?_) (fun cdv A outer s H vs Q E hr h=>?_)
 ·obtain⟨_,_,_,rfl,_⟩:=h;rfl
 obtain⟨v,d,m,rfl,hD,hw,k⟩:=h
 refine dU.ok (ag (bh (ee (bV (dA (CG T) hr T.m_Q10 T.F_Q10.kp T.b_Q10 (aa (qv 0) (aa ae ad ap) ac)))) (ah (aC cW)) aE)
   (ah (aC (dr (dA (xj T) hr T.m_Q15 T.F_Q15.kp T.b_Q15 (aa (bX ay (qv 0) ae) (aa (dN (v:=.int (24)) rfl T.m_TURNS ⟨_,rfl⟩) ad ac) aD)) (dr (cG iw (aj ar (by rfl) T.z_len boot_len (aa (bX ay (qv 0) ae) ad aD)) ae (aK _)) (dW (dA (xj T) hr T.m_Q15 T.F_Q15.kp T.b_Q15 (aa (bX ay (qv 0) ae) (aa (qv 1) ad ac) aD)))))))) ?_
 try dsimp only [Cx.nox,Cx.wish,bP]
 refine⟨_,rfl,v,d,2,rfl,hD,⟨_,rfl,?_⟩⟩
 cases ct:uy 2 d with
 | false=>
  refine cD ?_
  have:=k _ (aw.refl _)
  rw [AQ ct] at this
  exact this
 | true=>
 refine bS ?_
 obtain⟨p,x,y,dx,dy,rfl,rfl,hS,hx,hy⟩:=hD.two ct
 have wx:=hw dx (by show dx∈[dx,dy];simp)
 have wy:=hw dy (by show dy∈[dx,dy];simp)
 have k':∀ H',aw H H'->Q (.bl (jI 24 dx && (decide (0 < (jz dx).length) && jI m dy))) H':=k
 refine⟨_,rfl,p,_,_,_,rfl,rfl,hS,rfl,x,dx,24,rfl,hx,wx,fun H1 s1=>⟨_,rfl,?_⟩⟩
 cases c1:jI 24 dx with
 | false=>
  have:=k' _ s1
  rw [c1] at this
  exact this
 | true=>
 obtain⟨px,ls,rfl,rfl,hpx,srt,lt⟩:=rR hx c1
 have t1:=bn.same (K:=K) s1
 have nl:(au ls).length=ls.length:=List.length_map _
 have il:(jz (ii ls)).length=ls.length:=List.length_map _
 refine⟨_,rfl,p,_,_,_,rfl,rfl,t1 _ _ hS,rfl,px,_,rfl,.inr (t1 _ _ hpx),_,_,rfl,rfl,_,rfl,?_⟩
 by_cases c2:0 < ls.length
 ·refine cv (by rw [nl];omega) ?_
  refine⟨_,rfl,p,_,_,_,rfl,rfl,t1 _ _ hS,rfl,_,rfl,y,dy,m,rfl,hy.same s1,wy,fun H2 s2=>?_⟩
  have:=k' _ (s1.trans s2)
  rw [c1,il,decide_eq_true c2] at this
  exact this
 ·have e0:((ls.length:Nat):Int)=0:=by omega
  have:=k' _ s1
  rw [c1,il,decide_eq_false c2] at this
  rw [show decide ((((au ls).length:Nat):Int) > 0)=false from decide_eq_false (by rw [nl];omega)]
  exact bS this
theorem Ex (T:eR K mg t):bK P w K mg base d9 5 t.a_Q3 t.d_Q3 ["thing", "count"] (iD K):=by
 refine T.F_Q3.ok DT (fun vs H Q E h=>?_) (fun cdv A outer s H vs Q E hr h=>?_)
 ·obtain⟨_,_,_,rfl,_⟩:=h;rfl
 obtain⟨v,d,m,rfl,hD,⟨hl,hw⟩,k⟩:=h
 refine dU.ok (ah (aC (dr (aj aR (by rfl) T.z_isinstance boot_isinstance (aa (qv 0) (aa (ba (v:=V.ty "tuple") rfl T.z_tuple boot_tuple rfl) ad ac) ac)) (dW (aj (fP rfl) (by rfl) T.z_all boot_all (aa (bR (N':=["layer", "count"]) (src:=[none,some 1]) rfl (by exact (cO (qv 0))) (fun _ _ _ _ _=>(by exact (by exact aG (i:=0) (by show List.Nodup (["layer", "count"]:List Str);decide +kernel) (by exact rfl) (by first | exact Or.inl rfl | exact Or.inr rfl)))) (fun _ _ _ _ _=>cK) (fun _ _ _ _ _=>(by exact (by exact (dP (Ey T) (by exact hr.mono (by decide)) (by exact rfl) T.m_Q2 T.F_Q2.kp T.b_Q2 (by exact .nil) (by exact jK) (aa (by exact (qv 0)) (aa (by exact (qv 1)) ad ac) ac))))) (by exact⟨rfl,rfl,rfl,rfl,trivial⟩) rfl (by decide +kernel) rfl (by decide +kernel) (by exact bz rfl ⟨rfl,trivial⟩)) ad cM)))))) ?_
 try dsimp only [Cx.nox,Cx.wish,bP]
 rcases hU hD with ⟨e,p,xs,ds,rfl,rfl,hS,hA⟩ | ⟨e,no⟩
 rotate_left
 ·refine⟨_,rfl,_,_,_,_,rfl,hD,e,_,rfl,bS ?_⟩
  have:=k _ (aw.refl _)
  rw [show oQ m d=false by cases d with | tuple ds=>exact absurd rfl (no _) | _=>rfl] at this
  exact this
 refine⟨_,rfl,_,_,_,_,rfl,hD,e,_,rfl,cD ?_⟩
 have len:=hA.len
 have hl':ds.length≤30:=hl
 refine⟨_,rfl,p,rfl,⟨_,hS⟩,fun D hDn=>cH (fR hS) (fun _=>true) (fun i=>V.bl (gG m (ds.getD i .none))) hDn (by omega) (fun i x H' hi s' hx R E kR kE=>?_) fun H1 s1 h1=>?_⟩
 ·have hil:i < ds.length:=by omega
  obtain⟨v,hv,dv⟩:=aq.atN hA (List.getElem?_eq_getElem hil)
  rw [hx] at hv
  cases hv
  rw [aN PyData.none (List.getElem?_eq_getElem hil)] at kR
  exact⟨ji.set rfl,_,rfl,_,rfl,x,_,m,rfl,dv.same s',hw _ (List.getElem_mem hil),fun H'' s''=>kR rfl _ s''⟩
 have e1:(((List.range xs.length).filter fun _=>true).map fun i=>V.bl (gG m (ds.getD i .none)))=((List.range xs.length).map fun i=>gG m (ds.getD i .none)).map V.bl:=by rw [List.filter_eq_self.mpr (fun _ _=>rfl),List.map_map];rfl
 rw [e1] at h1
 have al:((List.range xs.length).map fun i=>gG m (ds.getD i .none)).all id=ds.all (gG m):=by rw [len,qY]
 refine⟨D,_,rfl,bj.of h1,?_⟩
 rw [al]
 exact k _ s1
theorem xk (T:eR K mg t):bK P w K mg base d9 1 t.a_Q11 t.d_Q11 ["rows"] (kz K):=by
 refine T.F_Q11.ok kG (fun vs H Q E h=>?_) (fun cdv A outer s H vs Q E hr h=>?_)
 ·obtain⟨_,_,_,rfl,_⟩:=h;rfl
 obtain⟨l,xs,rows,rfl,hS,al,r24,n30,k⟩:=h
 refine dU.ok (ag (cV 1 kG.nd kJ)
   (ag (bZ PassesOwn.never rfl (wj rfl T.z_enumerate (aa (qv 0) ad ac)) (jw rfl (cT (aG (i:=2) kG.nd rfl (by first | exact Or.inl rfl | exact Or.inr rfl)) (cT (aG (i:=3) kG.nd rfl (by first | exact Or.inl rfl | exact Or.inr rfl)) gY)))
   (ag (bh (bV (aj (vB rfl) (by rfl) T.z_any boot_any (aa (bR (N':=["part", "seen"]) (src:=[none,some 1]) rfl (by exact (cO (qv 3))) (fun _ _ _ _ _=>(by exact (by exact aG (i:=0) (by show List.Nodup (["part", "seen"]:List Str);decide +kernel) (by exact rfl) (by first | exact Or.inl rfl | exact Or.inr rfl)))) (fun _ _ _ _ _=>cK) (fun _ _ _ _ _=>(by exact (by exact (wl (by exact nI hr) (by exact (qv 0)) (by exact (qv 1)) (by with_unfolding_all rfl))))) (by exact⟨rfl,rfl,rfl,rfl,trivial⟩) rfl (by decide +kernel) rfl (by decide +kernel) (by exact bz rfl ⟨rfl,trivial⟩)) ad cM))) (ah (aC (qv 2))) aE)
   (ah (bZ PassesOwn.never rfl (cO (qv 3)) (aG (i:=4) kG.nd rfl (by first | exact Or.inl rfl | exact Or.inr rfl))
   (ah (oN (nI hr) (qv 1) (qv 4) cW rfl))))))
   (ah (aC dM)))) ?_
 try dsimp only [Cx.nox,Cx.wish,bP]
 have len:=al.len
 intro q hq
 have s0:=ak hq (.dK [])
 refine⟨_,rfl,l,rfl,⟨_,s0.seq hS⟩,vj (K:=K) (a:=l) (xs:=xs) (fun i σ H'=>∃ (x2 x3 x4:Option V) (kvs:List (cZ×V)),σ=[some (.ref l),some (.ref q),x2,x3,x4]/\aw H H'/\H' q=some (.dK kvs)/\lL kvs (rows.take i).flatten/\(rows.take i).flatten.length≤24 * i/\∀ m,m < i->((rows.getD m []).any fun x=>((rows.take m).flatten).contains x)=false) ⟨none,none,none,[],rfl,s0,af,lL.nil,Nat.zero_le _,fun m hm=>absurd hm (Nat.not_lt_zero _)⟩ (fun i σ H1 _ ⟨_,_,_,_,_,sm,_⟩=>sm.seq hS) ?_ ?_⟩
 ·rintro i x pt σ H2 hx ⟨x2,x3,x4,kvs,rfl,sm,hd,sn,l24,gd⟩ hpt
  obtain⟨row,hrow,pr,rfl,hpr⟩:=al.at hx
  have hil:=(List.getElem?_eq_some_iff.mp hrow).1
  have r4:=r24 row (List.mem_of_getElem? hrow)
  have nr:(au row).length=row.length:=List.length_map _
  have e1:=ak hpt (.tup [.int i,.ref pr])
  refine⟨pt,_,rfl,aZ.of af,rfl,_,_,rfl,_,_,rfl,rfl,?_⟩
  have sm1:=sm.trans e1
  have hd1:=e1 _ _ hd
  generalize upd H2 pt (.tup [.int i,.ref pr])=H3 at sm1 hd1 ⊢
  have hp3:=bn.same (K:=K) sm1 _ _ hpr
  refine⟨_,rfl,pr,rfl,⟨_,hp3⟩,fun D hD=>cH (fR hp3) (fun _=>true) (fun j=>V.bl (((rows.take i).flatten).contains (row.getD j 0))) hD (by omega) (fun j x H' hj s' hx R E kR kE=>?_) fun H4 s4 h4=>?_⟩
  ·have hjl:j < row.length:=by omega
   have b1:(au row)[j]?=some (V.int (row[j]:Nat)):=by unfold au;rw [List.getElem?_map,List.getElem?_eq_getElem hjl];rfl
   rw [hx] at b1
   cases b1
   rw [aN 0 (List.getElem?_eq_getElem hjl)] at kR
   refine⟨ji.set rfl,_,rfl,_,rfl,q,_,rfl,jH.k (k:=Sum.inl ((row[j]:Nat):Int)) (s' _ _ hd1),?_⟩
   rw [sn.has]
   exact kR rfl _ (aw.refl _)
  have e2:(((List.range (au row).length).filter fun _=>true).map fun j=>V.bl (((rows.take i).flatten).contains (row.getD j 0)))=((List.range row.length).map fun j=>((rows.take i).flatten).contains (row.getD j 0)).map V.bl:=by rw [List.filter_eq_self.mpr (fun _ _=>rfl),List.map_map,nr];rfl
  rw [e2] at h4
  have al4:((List.range row.length).map fun j=>((rows.take i).flatten).contains (row.getD j 0)).any id=row.any fun x=>((rows.take i).flatten).contains x:=by
   rw [List.any_map]
   have:=qX row (fun x=>((rows.take i).flatten).contains x)
   exact this
  refine⟨D,_,rfl,bj.of h4,⟨_,rfl,?_⟩⟩
  rw [al4]
  have sm4:=sm1.trans s4
  have gr:rows.getD i []=row:=aN [] hrow
  cases c:row.any fun x=>((rows.take i).flatten).contains x with
  | true=>
   refine cD ⟨_,rfl,?_⟩
   have:=k _ sm4
   rw [show dS rows=some i from hX hil (by rw [gr];exact c) gd] at this
   exact this
  | false=>
  refine bS ?_
  have hd4:=s4 _ _ hd1
  have hp4:=bn.same (K:=K) s4 _ _ hp3
  refine⟨_,rfl,pr,rfl,⟨_,hp4⟩,fj (K:=K) (a:=pr) (xs:=au row) (fun j σ H'=>∃ (x4:Option V) (kvs:List (cZ×V)),σ=[some (.ref l),some (.ref q),some (.int (i:Int)),some (.ref pr),x4]/\aw H H'/\H' q=some (.dK kvs)/\lL kvs ((rows.take i).flatten++row.take j)) ⟨x4,kvs,rfl,sm4,hd4,by rw [List.take_zero,List.append_nil];exact sn⟩ (fun j σ H1 _ ⟨_,_,_,sm,_⟩=>bn.same (K:=K) sm _ _ hpr) ?_ ?_⟩
  ·rintro j x σ H5 hx ⟨x4,kvs,rfl,sm5,hd5,sn5⟩
   have hjl:j < row.length:=by have:=(List.getElem?_eq_some_iff.mp hx).1;omega
   have b1:(au row)[j]?=some (V.int (row[j]:Nat)):=by unfold au;rw [List.getElem?_map,List.getElem?_eq_getElem hjl];rfl
   rw [hx] at b1
   cases b1
   have ls:=sn5.len
   rw [List.length_append] at ls
   have lt:=List.length_take_le j row
   have hlp:kvs.length < sizeLine:=cF (by omega)
   refine⟨_,rfl,_,rfl,q,_,rfl,rc.k (k:=Sum.inl ((row[j]:Nat):Int)) hd5 hlp,?_⟩
   refine⟨_,_,rfl,fun b o e=>?_,af,?_⟩
   ·rw [aJ (aV e hq)];exact sm5 _ _ e
   ·have:=sn5.put row[j] (.bl true)
    rw [List.append_assoc] at this
    rw [List.take_add_one,List.getElem?_eq_getElem hjl]
    exact this
  ·rintro σ H5 ⟨x4,kvs,rfl,sm5,hd5,sn5⟩
   rw [nr,List.take_length] at sn5
   have ft:(rows.take (i+1)).flatten=(rows.take i).flatten++row:=by rw [List.take_add_one,hrow,List.flatten_append];simp
   refine⟨_,_,_,kvs,rfl,sm5,hd5,by rw [ft];exact sn5,by rw [ft,List.length_append];omega,fun m hm=>?_⟩
   by_cases z:m < i
   ·exact gd m z
   ·have:m=i:=by omega
    subst this
    rw [gr]
    exact c
 ·rintro σ H2 ⟨x2,x3,x4,kvs,rfl,sm,hd,sn,l24,gd⟩
  have:=k _ sm
  rw [show dS rows=none from hV fun j hj=>gd j (by omega)] at this
  exact this
theorem Cr (T:eR K mg t):bK P w K mg base d9 1 t.a_Q27 t.d_Q27 ["_law_script"] (qa K):=by
 refine T.F_Q27.ok Bs (fun vs H Q E h=>?_) (fun cdv A outer s H vs Q E hr h=>?_)
 ·obtain⟨_,_,rfl,_⟩:=h;rfl
 obtain⟨a,ns,rfl,hS,hl,k⟩:=h
 refine dU.ok (ah (aC (bD (aa (qv 0) (aa ae (aa ae ad ap) ap) ac)))) ?_
 try dsimp only [Cx.nox,Cx.wish,bP]
 refine⟨_,rfl,Du,fun t ht=>?_⟩
 exact k t _ (ak ht _) ht (bJ.mk3 hS hl ht)
theorem cP (T:eR K mg t):bK P w K mg base d9 1 t.a_Q28 t.d_Q28 ["_law_tape_here", "_law_many"] (qf K):=by
 refine T.F_Q28.ok jt (fun vs H Q E h=>?_) (fun cdv A outer s H vs Q E hr h=>?_)
 ·obtain⟨_,_,_,rfl,_⟩:=h;rfl
 obtain⟨t₁,s₁,m,rfl,tp,hm0,hm1,k⟩:=h
 refine dU.ok (ag (bh (aH df (bX bH (qv 0) ae) ae (aK _)) (ag (cV 2 jt.nd (bX bH (qv 0) ae))
   (ag (jv (aB cI (qv 2) ae) (rZ (qv 0) ae kB))
   (ag (cV 3 jt.nd (qv 2))
   (ag (bh (aH iw (aj ar (by rfl) T.z_len boot_len (aa (bX bH (qv 0) ae) ad aD)) ae (aK _)) (ah (cV 3 jt.nd (bX bH (bX bH (qv 0) ae) (aB fU (qv 2) (aj ar (by rfl) T.z_len boot_len (aa (bX bH (qv 0) ae) ad aD)))))) aE)
   (ag (bh (gi (im (aH i0 (qv 3) (aB Cd ae ae) (aK _)) (gj (aH Ep (qv 2) (aj ar (by rfl) T.z_len boot_len (aa (bX bH (qv 0) ae) ad aD)) (aK _))))) (ag (cV 4 jt.nd (aB fU (aB iJ (aB cI (aB fU (qv 3) ae) ae) (aB cI ae (aB iJ ae (aB fU (qv 2) ae)))) ae))
   (ah (aC (aB fU (aB oU (aB fU (aB iJ (aB cI (qv 4) (aB iJ ae (qv 2))) ae) ae) ae) (qv 1))))) aE)
   (ah (jv (qv 3) (rZ (qv 0) ae kB)))))))) aE)
   (ag (cV 5 jt.nd (aB fU (bX bH (qv 0) ae) (qv 1)))
   (ag (jv (aB oU (bX bH (qv 0) ae) (qv 1)) (rZ (qv 0) ae kB))
   (ah (aC (qv 5)))))) ?_
 try dsimp only [Cx.nox,Cx.wish,bP]
 obtain⟨ns,p,q,ht,hs,hlen,hp0,hq0⟩:=tp.ex
 have hs':∀ o,bj K (upd H t₁ o) s₁ (ns.map V.int):=fun o=>hs.elim (fun z=>.inl (oJ z.1 z.2.symm)) fun z=>z _
 have tap:∀ (p' q':Int),0≤p'->0≤q'->bJ K (upd H t₁ (.lst [.ref s₁,.int p',.int q'])) t₁ s₁:=fun p' q' a b=>⟨ns,p',q',af,hs.elim (fun z=>.inl ⟨oJ z.1 z.2.symm,z.2⟩) fun z=>.inr z,hlen,a,b⟩
 have hl:((ns.map V.int).length:Int)=(ns.length:Int):=by rw [List.length_map]
 refine⟨_,rfl,t₁,_,_,_,rfl,rfl,bj.of ht,rfl,rfl,_,rfl,?_⟩
 by_cases c0:q=0
 ·refine cv (by rw [c0]) ?_
  refine⟨_,rfl,t₁,_,_,_,rfl,rfl,bj.of ht,rfl,?_⟩
  refine⟨_,rfl,_,_,rfl,rfl,_,rfl,t₁,_,_,_,rfl,rfl,ht,rfl,?_⟩
  refine⟨_,rfl,?_⟩
  refine⟨_,rfl,t₁,_,_,_,rfl,rfl,bj.of af,rfl,s₁,_,rfl,.inl (hs' _),_,_,rfl,rfl,_,rfl,?_⟩
  refine sx (fun c9=>?_) (fun _=>?_)
  ·have c8:(0:Int) < (ns.length:Int):=by
    have c7:(0:Int) < ((ns.map V.int).length:Int):=of_decide_eq_true c9
    rw [hl] at c7;exact c7
   obtain⟨z,hz⟩:=Ej (ns:=ns) (r:=p % (ns.length:Int)) (Int.emod_nonneg _ (by omega)) (Int.emod_lt_of_pos _ c8)
   rw [← hl] at hz c8
   refine⟨_,rfl,t₁,_,_,_,rfl,rfl,bj.of af,rfl,_,rfl,_,rfl,t₁,_,_,_,rfl,rfl,bj.of af,rfl,s₁,_,rfl,.inl (hs' _),_,_,rfl,rfl,c8,s₁,_,_,_,rfl,rfl,hs' _,hz,?_⟩
   refine⟨_,rfl,_,_,rfl,rfl,⟨by decide,by decide,by decide⟩,_,_,rfl,rfl,_,rfl,?_⟩
   refine sx (fun _=>?_) (fun d1=>?_)
   ·refine cD ?_
    refine⟨_,rfl,_,_,rfl,rfl,(by show (0:Int) < _;decide),_,_,rfl,rfl,_,rfl,_,_,rfl,rfl,(by show (0:Int) < _;decide),_,_,rfl,rfl,.inl ⟨by omega,by omega⟩,_,_,rfl,rfl,_,_,rfl,rfl,.inl ⟨by omega,by omega⟩,_,_,rfl,rfl,(by show (0:Int) < _;decide),?_⟩
    refine⟨_,rfl,_,rfl,_,_,rfl,rfl,.inl ⟨by omega,by omega⟩,_,_,rfl,rfl,_,_,rfl,rfl,.inr ⟨by decide,by decide⟩,_,_,rfl,rfl,(by show (0:Int) < _;decide),_,_,rfl,rfl,⟨by decide,by decide⟩,_,rfl,_,_,rfl,rfl,hm0,?_⟩
    exact k _ _ (Int.emod_nonneg _ (by omega)) (Int.emod_lt_of_pos _ hm0) (tap (p+1) q (by omega) hq0)
   ·refine⟨_,rfl,_,rfl,t₁,_,_,_,rfl,rfl,bj.of af,rfl,s₁,_,rfl,.inl (hs' _),_,_,rfl,rfl,_,rfl,?_⟩
    refine sx (fun _=>?_) (fun _=>?_)
    ·refine⟨_,rfl,_,_,rfl,rfl,(by show (0:Int) < _;decide),_,_,rfl,rfl,_,rfl,_,_,rfl,rfl,(by show (0:Int) < _;decide),_,_,rfl,rfl,.inl ⟨by omega,by omega⟩,_,_,rfl,rfl,_,_,rfl,rfl,.inl ⟨by omega,by omega⟩,_,_,rfl,rfl,(by show (0:Int) < _;decide),?_⟩
     refine⟨_,rfl,_,rfl,_,_,rfl,rfl,.inl ⟨by omega,by omega⟩,_,_,rfl,rfl,_,_,rfl,rfl,.inr ⟨by decide,by decide⟩,_,_,rfl,rfl,(by show (0:Int) < _;decide),_,_,rfl,rfl,⟨by decide,by decide⟩,_,rfl,_,_,rfl,rfl,hm0,?_⟩
     exact k _ _ (Int.emod_nonneg _ (by omega)) (Int.emod_lt_of_pos _ hm0) (tap (p+1) q (by omega) hq0)
    ·have d2:(0:Int)≤z:=by
      have d3:1000000000000000000≤z:=by simpa using d1
      omega
     refine⟨_,rfl,_,rfl,t₁,_,_,_,rfl,rfl,af,rfl,?_⟩
     rw [j6]
     refine⟨_,rfl,t₁,_,_,_,rfl,rfl,bj.of af,rfl,_,rfl,_,_,rfl,rfl,hm0,?_⟩
     refine⟨_,rfl,t₁,_,_,_,rfl,rfl,bj.of af,rfl,_,rfl,_,_,rfl,rfl,⟨hm0,hm1⟩,_,rfl,t₁,_,_,_,rfl,rfl,af,rfl,?_⟩
     refine⟨_,rfl,?_⟩
     rw [j6]
     exact k _ _ (Int.emod_nonneg _ (by omega)) (Int.emod_lt_of_pos _ hm0) (tap (p+1) (z / m) (by omega) (Int.ediv_nonneg d2 (by omega)))
  ·obtain⟨z,hz⟩:∃ z,z=p:=⟨_,rfl⟩
   refine⟨_,rfl,_,_,rfl,rfl,⟨by decide,by decide,by decide⟩,_,_,rfl,rfl,_,rfl,?_⟩
   refine sx (fun _=>?_) (fun d1=>?_)
   ·refine cD ?_
    refine⟨_,rfl,_,_,rfl,rfl,(by show (0:Int) < _;decide),_,_,rfl,rfl,_,rfl,_,_,rfl,rfl,(by show (0:Int) < _;decide),_,_,rfl,rfl,.inl ⟨by omega,by omega⟩,_,_,rfl,rfl,_,_,rfl,rfl,.inl ⟨by omega,by omega⟩,_,_,rfl,rfl,(by show (0:Int) < _;decide),?_⟩
    refine⟨_,rfl,_,rfl,_,_,rfl,rfl,.inl ⟨by omega,by omega⟩,_,_,rfl,rfl,_,_,rfl,rfl,.inr ⟨by decide,by decide⟩,_,_,rfl,rfl,(by show (0:Int) < _;decide),_,_,rfl,rfl,⟨by decide,by decide⟩,_,rfl,_,_,rfl,rfl,hm0,?_⟩
    exact k _ _ (Int.emod_nonneg _ (by omega)) (Int.emod_lt_of_pos _ hm0) (tap (p+1) q (by omega) hq0)
   ·refine⟨_,rfl,_,rfl,t₁,_,_,_,rfl,rfl,bj.of af,rfl,s₁,_,rfl,.inl (hs' _),_,_,rfl,rfl,_,rfl,?_⟩
    refine sx (fun _=>?_) (fun _=>?_)
    ·refine⟨_,rfl,_,_,rfl,rfl,(by show (0:Int) < _;decide),_,_,rfl,rfl,_,rfl,_,_,rfl,rfl,(by show (0:Int) < _;decide),_,_,rfl,rfl,.inl ⟨by omega,by omega⟩,_,_,rfl,rfl,_,_,rfl,rfl,.inl ⟨by omega,by omega⟩,_,_,rfl,rfl,(by show (0:Int) < _;decide),?_⟩
     refine⟨_,rfl,_,rfl,_,_,rfl,rfl,.inl ⟨by omega,by omega⟩,_,_,rfl,rfl,_,_,rfl,rfl,.inr ⟨by decide,by decide⟩,_,_,rfl,rfl,(by show (0:Int) < _;decide),_,_,rfl,rfl,⟨by decide,by decide⟩,_,rfl,_,_,rfl,rfl,hm0,?_⟩
     exact k _ _ (Int.emod_nonneg _ (by omega)) (Int.emod_lt_of_pos _ hm0) (tap (p+1) q (by omega) hq0)
    ·have d2:(0:Int)≤p:=by
      have d3:1000000000000000000≤p:=by simpa using d1
      omega
     refine⟨_,rfl,_,rfl,t₁,_,_,_,rfl,rfl,af,rfl,?_⟩
     rw [j6]
     refine⟨_,rfl,t₁,_,_,_,rfl,rfl,bj.of af,rfl,_,rfl,_,_,rfl,rfl,hm0,?_⟩
     refine⟨_,rfl,t₁,_,_,_,rfl,rfl,bj.of af,rfl,_,rfl,_,_,rfl,rfl,⟨hm0,hm1⟩,_,rfl,t₁,_,_,_,rfl,rfl,af,rfl,?_⟩
     refine⟨_,rfl,?_⟩
     rw [j6]
     exact k _ _ (Int.emod_nonneg _ (by omega)) (Int.emod_lt_of_pos _ hm0) (tap (p+1) (p / m) (by omega) (Int.ediv_nonneg d2 (by omega)))
 refine bO (fun z=>c0 (by injection z)) ?_
 refine⟨_,rfl,t₁,_,_,_,rfl,rfl,bj.of ht,rfl,_,rfl,_,_,rfl,rfl,hm0,?_⟩
 refine⟨_,rfl,t₁,_,_,_,rfl,rfl,bj.of ht,rfl,_,rfl,_,_,rfl,rfl,⟨hm0,hm1⟩,_,rfl,t₁,_,_,_,rfl,rfl,ht,rfl,?_⟩
 refine⟨_,rfl,?_⟩
 exact k _ _ (Int.emod_nonneg _ (by omega)) (Int.emod_lt_of_pos _ hm0) (tap p (q / m) hp0 (Int.ediv_nonneg hq0 (by omega)))
theorem CB (T:eR K mg t):bK P w K mg base d9 2 t.a_Q16 t.d_Q16 ["_law_due", "_law_found"] (oy K):=by
 refine T.F_Q16.ok v9 (fun vs H Q E h=>?_) (fun cdv A outer s H vs Q E hr h=>?_)
 ·obtain⟨_,_,_,rfl,_⟩:=h;rfl
 obtain⟨v,w,d,rfl,hv,hw,dp,sm,k⟩:=h
 refine dU.ok (ag (bh (gi (im (bV (aj aR (by rfl) T.z_isinstance boot_isinstance (aa (qv 0) (aa (ba (v:=V.ty "tuple") rfl T.z_tuple boot_tuple rfl) ad ac) ac))) (gj (bV (aj aR (by rfl) T.z_isinstance boot_isinstance (aa (qv 0) (aa (ba (v:=V.ty "list") rfl T.z_list boot_list rfl) ad ac) ac)))))) (ag (bh (aH iu (aj aR (by rfl) T.z_isinstance boot_isinstance (aa (qv 0) (aa (ba (v:=V.ty "tuple") rfl T.z_tuple boot_tuple rfl) ad ac) ac)) (aj aR (by rfl) T.z_isinstance boot_isinstance (aa (qv 1) (aa (ba (v:=V.ty "tuple") rfl T.z_tuple boot_tuple rfl) ad ac) ac)) (aK _)) (ah (aC cW)) aE)
   (ag (bh (aH iu (aj aR (by rfl) T.z_isinstance boot_isinstance (aa (qv 0) (aa (ba (v:=V.ty "list") rfl T.z_list boot_list rfl) ad ac) ac)) (aj aR (by rfl) T.z_isinstance boot_isinstance (aa (qv 1) (aa (ba (v:=V.ty "list") rfl T.z_list boot_list rfl) ad ac) ac)) (aK _)) (ah (aC cW)) aE)
   (ag (bh (aH iu (aj ar (by rfl) T.z_len boot_len (aa (qv 0) ad ac)) (aj ar (by rfl) T.z_len boot_len (aa (qv 1) ad ac)) (aK _)) (ah (aC cW)) aE)
   (ah (aC (aj (fP rfl) (by rfl) T.z_all boot_all (aa (bR (N':=["_law_k", "_law_due", "_law_found"]) (src:=[none,some 0,some 1]) rfl (by exact (dj rfl T.z_range (aa (aj ar (by rfl) T.z_len boot_len (aa (qv 0) ad ac)) ad ao))) (fun _ _ _ _ _=>(by exact (by exact aG (i:=0) (by show List.Nodup (["_law_k", "_law_due", "_law_found"]:List Str);decide +kernel) (by exact rfl) (by first | exact Or.inl rfl | exact Or.inr rfl)))) (fun _ _ _ _ _=>cK) (fun _ _ _ _ _=>(by exact (by exact (dP (u6 T) (by exact hr.mono (by decide)) (by exact rfl) T.m_Q16 T.F_Q16.kp T.b_Q16 (by exact .nil) (by exact jK) (aa (by exact (cj (bG (K:=K) (by exact rfl)) (by exact (qv 1)) (by exact (qv 0)) (by exact fun _ _=>rfl))) (aa (by exact (cj (bG (K:=K) (by exact rfl)) (by exact (qv 2)) (by exact (qv 0)) (by exact fun _ _=>rfl))) ad aD) aD))))) (by exact⟨rfl,rfl,rfl,rfl,⟨rfl,rfl,rfl,rfl,trivial⟩⟩) rfl (by decide +kernel) rfl (by decide +kernel) (by exact bz rfl ⟨rfl,⟨rfl,trivial⟩⟩)) ad cM))))))) aE)
   (ag (bh (aH kQ (qv 0) dM (aK _)) (ah (aC (cG kQ (qv 1) dM (aK _)))) aE)
   (ag (bh (bV (aj aR (by rfl) T.z_isinstance boot_isinstance (aa (qv 0) (aa (ba (v:=V.ty "str") rfl T.z_str boot_str rfl) ad ac) ac))) (ah (aC (dr (aj aR (by rfl) T.z_isinstance boot_isinstance (aa (qv 1) (aa (ba (v:=V.ty "str") rfl T.z_str boot_str rfl) ad ac) ac)) (dW (cG df (qv 1) (qv 0) (aK _)))))) aE)
   (ag (bh (bV (aj aR (by rfl) T.z_isinstance boot_isinstance (aa (qv 0) (aa (ba (v:=V.ty "bool") rfl T.z_bool boot_bool rfl) ad ac) ac))) (ah (aC (dr (aj aR (by rfl) T.z_isinstance boot_isinstance (aa (qv 1) (aa (ba (v:=V.ty "bool") rfl T.z_bool boot_bool rfl) ad ac) ac)) (dW (cG df (qv 1) (qv 0) (aK _)))))) aE)
   (ah (aC (dr (aj aR (by rfl) T.z_isinstance boot_isinstance (aa (qv 1) (aa (ba (v:=V.ty "int") rfl T.z_int boot_int rfl) ad ac) ac)) (dr (r6 (aj aR (by rfl) T.z_isinstance boot_isinstance (aa (qv 1) (aa (ba (v:=V.ty "bool") rfl T.z_bool boot_bool rfl) ad ac) ac))) (dW (cG df (qv 1) (qv 0) (aK _))))))))))) ?_
 try dsimp only [Cx.nox,Cx.wish,bP]
 cases hv with
 | non=>
  cases hw
  refine⟨_,rfl,_,_,_,_,rfl,.non,fh,_,rfl,bS ?_⟩
  refine⟨_,rfl,_,_,_,_,rfl,.non,fK,_,rfl,bS ?_⟩
  refine⟨_,rfl,rfl,_,rfl,cD ?_⟩
  exact⟨_,rfl,rfl,k H (aw.refl H)⟩
 | bl b=>
  cases hw
  refine⟨_,rfl,_,_,_,_,rfl,.bl b,iy,_,rfl,bS ?_⟩
  refine⟨_,rfl,_,_,_,_,rfl,.bl b,i8,_,rfl,bS ?_⟩
  refine⟨_,rfl,rfl,_,rfl,bO (by intro z;cases z) ?_⟩
  refine⟨_,rfl,_,_,_,_,rfl,.bl b,jN,_,rfl,bS ?_⟩
  refine⟨_,rfl,_,_,_,_,rfl,.bl b,eg,_,rfl,cD ?_⟩
  refine⟨_,rfl,_,_,_,_,rfl,.bl b,eg,_,rfl,cD ?_⟩
  have:=k H (aw.refl H)
  exact⟨_,rfl,_,rfl,rfl,by rw [decide_eq_true rfl];exact this⟩
 | int i=>
  cases hw
  refine⟨_,rfl,_,_,_,_,rfl,.int i,i7,_,rfl,bS ?_⟩
  refine⟨_,rfl,_,_,_,_,rfl,.int i,jM,_,rfl,bS ?_⟩
  refine⟨_,rfl,rfl,_,rfl,bO (by intro z;cases z) ?_⟩
  refine⟨_,rfl,_,_,_,_,rfl,.int i,lg,_,rfl,bS ?_⟩
  refine⟨_,rfl,_,_,_,_,rfl,.int i,fg,_,rfl,bS ?_⟩
  refine⟨_,rfl,_,_,_,_,rfl,.int i,lh,_,rfl,cD ?_⟩
  refine⟨_,rfl,_,_,_,_,rfl,.int i,fg,_,rfl,_,rfl,cD ?_⟩
  have:=k H (aw.refl H)
  exact⟨_,rfl,_,rfl,rfl,by rw [decide_eq_true rfl];exact this⟩
 | str x=>
  cases hw
  refine⟨_,rfl,_,_,_,_,rfl,.str x,i6,_,rfl,bS ?_⟩
  refine⟨_,rfl,_,_,_,_,rfl,.str x,jL,_,rfl,bS ?_⟩
  refine⟨_,rfl,rfl,_,rfl,bO (by intro z;cases z) ?_⟩
  refine⟨_,rfl,_,_,_,_,rfl,.str x,fZ,_,rfl,cD ?_⟩
  refine⟨_,rfl,_,_,_,_,rfl,.str x,fZ,_,rfl,cD ?_⟩
  have:=k H (aw.refl H)
  exact⟨_,rfl,_,rfl,rfl,by rw [decide_eq_true rfl];exact this⟩
 | lst e h=>cases sm
 | @tup a xs ds e h=>
  cases hw with
  | @tup a' xs' _ e' h'=>
  have lx:=gK h
  have lx':=gK h'
  have sm':(decide (ds.length≤1000) && mz ds)=true:=sm
  rw [Bool.and_eq_true] at sm'
  obtain⟨sm1,sm2⟩:=sm'
  have ln:ds.length≤1000:=of_decide_eq_true sm1
  have dv:bu K H (.ref a) (.tuple ds):=.tup e h
  have dw:bu K H (.ref a') (.tuple ds):=.tup e' h'
  refine⟨_,rfl,_,_,_,_,rfl,dv,eJ,_,rfl,cD ?_⟩
  refine⟨_,rfl,_,_,_,_,rfl,dv,eJ,_,rfl,_,_,_,_,rfl,dw,eJ,rfl,_,rfl,f9 rfl ?_⟩
  refine⟨_,rfl,_,_,_,_,rfl,dv,ix,_,rfl,_,_,_,_,rfl,dw,ix,rfl,_,rfl,f9 rfl ?_⟩
  refine⟨_,rfl,a,_,rfl,.inr e,_,rfl,a',_,rfl,.inr e',rfl,_,rfl,f9 (congrArg (fun n:Nat=>V.int n) (lx.trans lx'.symm)) ?_⟩
  refine⟨_,rfl,a,_,rfl,.inr e,_,rfl,by omega,by omega,fun D hD=>cH gT (fun _=>true) (fun _=>V.bl true) hD (by omega) (fun i x H' hi s' hx R E kR kE=>?_) fun H4 s4 h4=>?_⟩
  ·subst hx
   rw [Int.zero_add]
   obtain⟨d,hd⟩:∃ d,ds[i]?=some d:=⟨_,List.getElem?_eq_getElem (by omega)⟩
   obtain⟨x,hx,dx⟩:=iO h hd
   obtain⟨y,hy,dy⟩:=iO h' hd
   have t':=bn.same (K:=K) s'
   refine⟨ji.set rfl,_,rfl,_,rfl,a,_,_,_,rfl,rfl,t' _ _ e,bv hx,_,rfl,_,rfl,a',_,_,_,rfl,rfl,t' _ _ e',bv hy,x,y,d,rfl,dx.same s',dy.same s',?_,qj sm2 hd,fun H'' s''=>kR rfl H'' s''⟩
   have:PyData.depthAll ds+1≤0+1:=dp
   exact Nat.le_trans (jO hd) (Nat.le_of_succ_le_succ this)
  ·have e4:(((List.range (xs.length:Int).toNat).filter fun _=>true).map fun _=>V.bl true)=(((List.range (xs.length:Int).toNat).filter fun _=>true).map fun _=>true).map V.bl:=by rw [List.map_map];rfl
   rw [e4] at h4
   have q:=k H4 s4
   refine⟨D,_,rfl,bj.of h4,?_⟩
   rw [show ((((List.range (xs.length:Int).toNat).filter fun _=>true).map fun _=>true).all id)=true by simp]
   exact q
theorem sj (T:eR K mg t):bK P w K mg base d9 1 t.a_Q29 t.d_Q29 ["_law_top", "_law_bottom"] (qd K):=by
 refine T.F_Q29.ok rP (fun vs H Q E h=>?_) (fun cdv A outer s H vs Q E hr h=>?_)
 ·obtain⟨_,_,rfl,_⟩:=h;rfl
 obtain⟨a,b,rfl,hb,hz,k⟩:=h
 refine dU.ok (ag (rX (i:=2) (j:=3) rfl rP.nd rfl rfl (by decide) rfl rfl (aa (aj lH (by rfl) T.z_abs boot_abs (aa (qv 0) ad ac)) (aa (qv 1) ad ac) ao) rfl)
   (ag (kI PassesOwn.never (aH iu (qv 3) ae (aK _))
   (ah (rX (i:=2) (j:=3) rfl rP.nd rfl rfl (by decide) rfl rfl (aa (qv 3) (aa (aB fU (qv 2) (qv 3)) ad aX) ac) rfl)))
   (ah (aC (az (aa (aB eG (qv 0) (qv 2)) (aa (aB eG (qv 1) (qv 2)) ad aX) aX)))))) ?_
 try dsimp only [Cx.nox,Cx.wish,bP]
 have gp:=bY (a:=a) hb
 have gb:=lC (a:=a) hb hz
 refine⟨_,rfl,_,rfl,_,rfl,_,_,rfl,?_⟩
 rw [sP]
 refine⟨fun m σ H'=>∃ (x y:Int),σ=[some (.int a),some (.int b),some (.int x),some (.int y)]/\H'=H/\0≤x/\0≤y/\Int.gcd x y=Int.gcd a b/\m=y.toNat,⟨_,_,_,rfl,rfl,by omega,by omega,(by simp [Int.gcd]),rfl⟩,?_⟩
 rintro m σ H' ⟨x,y,rfl,rfl,hx,hy,hg,rfl⟩
 refine⟨_,rfl,rfl,_,rfl,?_⟩
 by_cases c:y=0
 ·subst c
  refine f9 rfl ?_
  have e:(x:Int)=(Int.gcd x 0:Nat):=by simp [Int.gcd];omega
  rw [hg] at e
  subst e
  exact⟨_,rfl,_,rfl,_,_,rfl,rfl,⟨gp,gb⟩,_,rfl,_,rfl,_,_,rfl,rfl,⟨gp,gb⟩,dE,fun p hp=>k p hp⟩
 ·refine lz (fun z=>c (by injection z)) ?_
  refine⟨_,fun _ _ z=>z,?_⟩
  refine⟨_,rfl,_,rfl,_,rfl,_,_,rfl,rfl,(by omega),_,_,rfl,?_⟩
  refine⟨_,?_,y,x % y,rfl,rfl,hy,Int.emod_nonneg _ c,?_,rfl⟩
  ·have:=Int.emod_lt_of_pos x (show 0 < y by omega)
   have:=Int.emod_nonneg x c
   omega
  ·rw [qJ hx (by omega),hg]
theorem Co (T:eR K mg t):bK P w K mg base d9 2 t.a_Q34 t.d_Q34 ["_law_one_here", "_law_other"] (rH K):=by
 refine T.F_Q34.ok Bn (fun vs H Q E h=>?_) (fun cdv A outer s H vs Q E hr h=>?_)
 ·obtain⟨_,_,_,_,_,_,rfl,_⟩:=h;rfl
 obtain⟨v,w,r,q,n,m,rfl,hv,hw,wr,wq,hz,k⟩:=h
 refine dU.ok (ah (aC (dA (sj T) hr T.m_Q29 T.F_Q29.kp T.b_Q29 (aa (aB cI (aB cX (bX ay (qv 0) ae) (bX ay (qv 1) ae)) (aB cX (bX ay (qv 1) ae) (bX ay (qv 0) ae))) (aa (aB cX (bX ay (qv 0) ae) (bX ay (qv 1) ae)) ad aX) aX)))) ?_
 try dsimp only [Cx.nox,Cx.wish,bP]
 obtain⟨p,rfl,hv⟩:=hv
 obtain⟨p',rfl,hw⟩:=hw
 have c1:=bI wr.top (show n≤4000 by omega)
 have c2:=bI wr.bot (show n≤4000 by omega)
 have c3:=bI wq.top (show m≤4000 by omega)
 have c4:=bI wq.bot (show m≤4000 by omega)
 refine⟨_,rfl,p,_,_,_,rfl,rfl,hv,rfl,_,rfl,p',_,_,_,rfl,rfl,hw,rfl,_,_,rfl,rfl,⟨c1,c4⟩,_,rfl,p',_,_,_,rfl,rfl,hw,rfl,_,rfl,p,_,_,_,rfl,rfl,hv,rfl,_,_,rfl,rfl,⟨c3,c2⟩,_,_,rfl,rfl,_,rfl,p,_,_,_,rfl,rfl,hv,rfl,_,rfl,p',_,_,_,rfl,rfl,hw,rfl,_,_,rfl,rfl,⟨c2,c4⟩,_,_,rfl,Int.mul_pos wr.pos wq.pos,bI (kW wr.bot wq.bot) (by omega),k⟩
theorem Cn (T:eR K mg t):bK P w K mg base d9 2 t.a_Q35 t.d_Q35 ["_law_one_here", "_law_other"] (rG K):=by
 refine T.F_Q35.ok Bm (fun vs H Q E h=>?_) (fun cdv A outer s H vs Q E hr h=>?_)
 ·obtain⟨_,_,_,_,_,_,rfl,_⟩:=h;rfl
 obtain⟨v,w,r,q,n,m,rfl,hv,hw,wr,wq,hz,k⟩:=h
 refine dU.ok (ah (aC (dA (sj T) hr T.m_Q29 T.F_Q29.kp T.b_Q29 (aa (aB cX (bX ay (qv 0) ae) (bX ay (qv 1) ae)) (aa (aB cX (bX ay (qv 0) ae) (bX ay (qv 1) ae)) ad aX) aX)))) ?_
 try dsimp only [Cx.nox,Cx.wish,bP]
 obtain⟨p,rfl,hv⟩:=hv
 obtain⟨p',rfl,hw⟩:=hw
 have c1:=bI wr.top (show n≤4000 by omega)
 have c2:=bI wr.bot (show n≤4000 by omega)
 have c3:=bI wq.top (show m≤4000 by omega)
 have c4:=bI wq.bot (show m≤4000 by omega)
 refine⟨_,rfl,p,_,_,_,rfl,rfl,hv,rfl,_,rfl,p',_,_,_,rfl,rfl,hw,rfl,_,_,rfl,rfl,⟨c1,c3⟩,_,rfl,p,_,_,_,rfl,rfl,hv,rfl,_,rfl,p',_,_,_,rfl,rfl,hw,rfl,_,_,rfl,rfl,⟨c2,c4⟩,_,_,rfl,Int.mul_pos wr.pos wq.pos,bI (kW wr.bot wq.bot) (by omega),k⟩
theorem Cq (T:eR K mg t):bK P w K mg base d9 1 t.a_Q30 t.d_Q30 ["_law_one_here", "_law_other"] (qc K):=by
 refine T.F_Q30.ok Br (fun vs H Q E h=>?_) (fun cdv A outer s H vs Q E hr h=>?_)
 ·obtain⟨_,_,_,_,_,_,rfl,_⟩:=h;rfl
 obtain⟨v,w,r,q,n,m,rfl,hv,hw,wr,wq,hz,k⟩:=h
 refine dU.ok (ah (aC (cG i0 (aB cX (bX ay (qv 0) ae) (bX ay (qv 1) ae)) (aB cX (bX ay (qv 1) ae) (bX ay (qv 0) ae)) (aK _)))) ?_
 try dsimp only [Cx.nox,Cx.wish,bP]
 obtain⟨p,rfl,hv⟩:=hv
 obtain⟨p',rfl,hw⟩:=hw
 have c1:=bI wr.top (show n≤4000 by omega)
 have c2:=bI wr.bot (show n≤4000 by omega)
 have c3:=bI wq.top (show m≤4000 by omega)
 have c4:=bI wq.bot (show m≤4000 by omega)
 refine⟨_,rfl,p,_,_,_,rfl,rfl,hv,rfl,_,rfl,p',_,_,_,rfl,rfl,hw,rfl,_,_,rfl,rfl,⟨c1,c4⟩,_,rfl,p',_,_,_,rfl,rfl,hw,rfl,_,rfl,p,_,_,_,rfl,rfl,hv,rfl,_,_,rfl,rfl,⟨c3,c2⟩,_,_,rfl,rfl,k⟩
theorem Cm (T:eR K mg t):bK P w K mg base d9 3 t.a_Q36 t.d_Q36 ["_law_some"] (rE K):=by
 refine T.F_Q36.ok oH (fun vs H Q E h=>?_) (fun cdv A outer s H vs Q E hr h=>?_)
 ·obtain⟨_,_,_,rfl,_⟩:=h;rfl
 obtain⟨a,xs,rs,rfl,hS,al,wf,hl,k⟩:=h
 refine dU.ok (ag (cV 1 oH.nd (az (aa ae (aa ae ad ap) ap)))
   (ag (bZ PassesOwn.never rfl (fc (qv 0)) (aG (i:=2) oH.nd rfl (by first | exact Or.inl rfl | exact Or.inr rfl))
   (ah (cV 1 oH.nd (dA (Co T) hr T.m_Q34 T.F_Q34.kp T.b_Q34 (aa (qv 1) (aa (qv 2) ad ac) ac)))))
   (ah (aC (qv 1))))) ?_
 try dsimp only [Cx.nox,Cx.wish,bP]
 have hlen:=al.len
 refine⟨dE,fun p0 hp0=>?_⟩
 have s0:=ak hp0 (.tup [.int 0,.int 1])
 refine⟨_,rfl,a,rfl,⟨_,s0.seq hS⟩,gI (K:=K) (a:=a) (xs:=xs) (fun i σ H'=>∃ (u:V) (x3:Option V),σ=[some (.ref a),some u,x3]/\aw H H'/\RV K H' u (ge (rs.take i))/\Wf (1+5 * i) (ge (rs.take i))) ⟨_,none,rfl,s0,RV.of af,sV⟩ (fun i σ H1 _ ⟨_,_,_,s1,_⟩=>s1.seq hS) ?_ ?_⟩
 ·rintro i y σ H1 hi ⟨u,x3,rfl,s1,ru,wu⟩
  obtain⟨r,hr,rv⟩:=al.at hi
  have wr:=wf r (List.mem_of_getElem? hr)
  have hil:=(List.getElem?_eq_some_iff.mp hr).1
  have e:ge (rs.take (i+1))=de (ge (rs.take i)) r:=by
   unfold ge
   rw [List.take_add_one,hr,List.foldl_append]
   rfl
  refine⟨_,rfl,_,rfl,u,y,ge (rs.take i),r,1+5 * i,4,rfl,ru,rv.mono (bn.same s1),wu,wr,by omega,fun p hp=>?_⟩
  have s2:=ak hp (.tup [.int (de (ge (rs.take i)) r).1,.int (de (ge (rs.take i)) r).2])
  refine⟨_,_,rfl,s1.trans s2,?_,?_⟩
  ·rw [e];exact RV.of af
  ·rw [e];exact (tN wu wr).mono (by omega)
 ·rintro σ H1 ⟨u,x3,rfl,s1,ru,wu⟩
  rw [hlen,List.take_length] at ru
  exact⟨_,rfl,k u H1 s1 ru⟩
theorem CA (T:eR K mg t):bK P w K mg base d9 2 t.a_Q17 t.d_Q17 ["_law_tape_here", "_law_many"] (oj K):=by
 refine T.F_Q17.ok eE (fun vs H Q E h=>?_) (fun cdv A outer s H vs Q E hr h=>?_)
 ·obtain⟨_,_,_,rfl,_⟩:=h;rfl
 obtain⟨t₁,s₁,m,rfl,tp,hm,k⟩:=h
 refine dU.ok (ag (cV 2 eE.nd (bX bH (bD (aa ae (aa ae (aa ae (aa ae ad ap) ap) ap) ap)) (dA (cP T) hr T.m_Q28 T.F_Q28.kp T.b_Q28 (aa (qv 0) (aa ae ad ap) ac))))
   (ag (cV 3 eE.nd (bD ad))
   (ag (bZ PassesOwn.never rfl (dj rfl T.z_range (aa (qv 1) ad ac)) (aG (i:=4) eE.nd rfl (by first | exact Or.inl rfl | exact Or.inr rfl))
   (ag (cV 5 eE.nd (dA (cP T) hr T.m_Q28 T.F_Q28.kp T.b_Q28 (aa (qv 0) (aa (qv 2) ad ac) ac)))
   (ag (cV 6 eE.nd (aB cI (qv 5) (dA (cP T) hr T.m_Q28 T.F_Q28.kp T.b_Q28 (aa (qv 0) (aa (aB fS (qv 2) (qv 5)) ad aX) ac))))
   (ag (cV 7 eE.nd (dA (cP T) hr T.m_Q28 T.F_Q28.kp T.b_Q28 (aa (qv 0) (aa ae ad ap) ac)))
   (ag (rY (bh (aH df (qv 7) ae (aK _)) (ah (cV 6 eE.nd (qv 5))) aE))
   (ag (rY (bh (aH df (qv 7) ae (aK _)) (ah (rX (i:=5) (j:=6) rfl eE.nd rfl rfl (by decide) rfl rfl (aa ae (aa (aB fS (qv 2) ae) ad aX) ap) rfl)) aE))
   (ag (rY (bh (gi (oM (aH df (qv 7) ae (aK _)) (oK (aH iw (qv 4) ae (aK _))))) (ah (jv (bE cN (bX bH (qv 3) (dA (cP T) hr T.m_Q28 T.F_Q28.kp T.b_Q28 (aa (qv 0) (aa (qv 4) ad ac) ac))) bT (bM ae)) (jw rfl (cT (aG (i:=5) eE.nd rfl (by first | exact Or.inl rfl | exact Or.inr rfl)) (cT (aG (i:=6) eE.nd rfl (by first | exact Or.inl rfl | exact Or.inr rfl)) gY))))) aE))
   (ah (dh (io PySem.F.plainAttrs_list PySem.F.slot_list_append PySem.F.type_list_append dG (qv 3) (aa (az (aa (qv 5) (aa (qv 6) (aa (dA (sj T) hr T.m_Q29 T.F_Q29.kp T.b_Q29 (aa (aB cI ae (dA (cP T) hr T.m_Q28 T.F_Q28.kp T.b_Q28 (aa (qv 0) (aa ae ad ap) ac))) (aa (bX bH (bD (aa ae (aa ae (aa ae (aa ae (aa ae (aa ae ad ap) ap) ap) ap) ap) ap)) (dA (cP T) hr T.m_Q28 T.F_Q28.kp T.b_Q28 (aa (qv 0) (aa ae ad ap) ac))) ad aD) aX)) ad ao) ac) ac)) ad aF)))))))))))
   (ah (aC (bc br (by rfl) T.z_tuple boot_tuple (aa (qv 3) ad ac))))))) ?_
 try dsimp only [Cx.nox,Cx.wish,bP]
 obtain⟨y0,e0⟩:=tp.lst
 refine⟨Aq,fun le hle=>?_⟩
 have nle:le≠t₁:=fun z=>by subst z;rw [e0] at hle;cases hle
 have s0:=ak hle (.lst [.int 3,.int 7,.int 12,.int 24])
 have T0:=tp.new hle (.lst [.int 3,.int 7,.int 12,.int 24])
 have h00:upd H le (.lst [.int 3,.int 7,.int 12,.int 24]) le=some (.lst [.int 3,.int 7,.int 12,.int 24]):=af
 generalize upd H le (.lst [.int 3,.int 7,.int 12,.int 24])=H0 at T0 s0 h00 ⊢
 obtain⟨y00,e00⟩:=T0.lst
 refine⟨_,rfl,t₁,s₁,4,rfl,T0,by omega,by omega,fun r0 x0_ a0 b0 T0=>?_⟩
 have S0:bB t₁ H (upd H0 t₁ (.lst x0_)):=(bB.same s0 tp.lst).trans (bB.up e00)
 have h01:upd H0 t₁ (.lst x0_) le=some (.lst [.int 3,.int 7,.int 12,.int 24]):=by rw [aJ nle];exact h00
 generalize upd H0 t₁ (.lst x0_)=HA at T0 S0 h01 ⊢
 rename_i T0'
 obtain⟨en,hen,en1,en2⟩:∃ e:Nat,jm [V.int 3,.int 7,.int 12,.int 24] r0=some (.int e)/\3≤e/\e≤24:=by
  rcases (show r0=0∨r0=1∨r0=2∨r0=3 by omega) with rfl | rfl | rfl | rfl
  ·exact⟨3,rfl,by decide,by decide⟩
  ·exact⟨7,rfl,by decide,by decide⟩
  ·exact⟨12,rfl,by decide,by decide⟩
  ·exact⟨24,rfl,by decide,by decide⟩
 refine⟨le,_,_,_,rfl,rfl,bj.of h01,hen,?_⟩
 refine⟨(by show 0≤sizeLine;exact Nat.zero_le _),fun lw hlw0=>?_⟩
 obtain⟨yA,eA⟩:=T0.lst
 have nl:lw≠t₁:=fun z=>by subst z;rw [eA] at hlw0;cases hlw0
 have nls:=T0.off hlw0
 refine⟨_,rfl,m,rfl,by omega,by omega,dk (lo:=0) (n:=(m:Int).toNat) (fun i σ H'=>∃ (xs:List V) (ws:List Wk) (x5 x6 x7 x8:Option V),σ=[some (.ref t₁),some (.int m),some (.int en),some (.ref lw),x5,x6,x7,x8]/\bJ K H' t₁ s₁/\(∀ b o,b≠t₁->HA b=some o->H' b=some o)/\H' lw=some (.lst xs)/\cL (Am K H') xs ws/\ws.length=i/\∀ w∈ws,eM w) ⟨[],[],none,none,none,none,rfl,T0.new hlw0 _,(fun b o _ q=>ak hlw0 _ _ _ q),af,.nil,rfl,fun w hw=>by cases hw⟩ ?_ ?_⟩
 ·rintro i σ H1 hi ⟨xs,ws,x5,x6,x7,x8,rfl,T1,kp,hlw,alw,hlen,okw⟩
  rw [Int.zero_add]
  obtain⟨y1,e1⟩:=T1.lst
  refine⟨_,rfl,_,rfl,t₁,s₁,en,rfl,T1,by omega,by omega,fun r2 x2_ a2 b2 T2=>?_⟩
  obtain⟨ff,rfl⟩:=Int.eq_ofNat_of_zero_le a2
  have S2:bB t₁ H1 _:=bB.up (ys:=x2_) e1
  generalize upd H1 t₁ (.lst x2_)=H2 at T2 S2 ⊢
  obtain⟨y2,e2⟩:=T2.lst
  refine⟨_,rfl,_,rfl,_,rfl,_,rfl,_,_,rfl,rfl,t₁,s₁,(en:Int) - ff,rfl,T2,by omega,by omega,fun r3 x3_ a3 b3 T3=>?_⟩
  have S3:=S2.trans (bB.up (ys:=x3_) e2)
  generalize upd H2 t₁ (.lst x3_)=H3 at T3 S3 ⊢
  obtain⟨y3,e3⟩:=T3.lst
  refine⟨_,_,rfl,rfl,?_⟩
  obtain⟨la,hla⟩:∃ la:Nat,(ff:Int)+r3=(la:Nat):=⟨((ff:Int)+r3).toNat,by omega⟩
  dsimp only
  rw [hla]
  refine⟨_,rfl,t₁,s₁,7,rfl,T3,by omega,by omega,fun r4 x4_ a4 b4 T4=>?_⟩
  have S4:=S3.trans (bB.up (ys:=x4_) e3)
  generalize hHH:upd H3 t₁ (.lst x4_)=HH at T4 S4 ⊢
  clear hHH
  refine⟨Gb K t₁ s₁ lw m en i r4 H1,⟨_,rfl,rfl,_,rfl,?_⟩,?_⟩
  ·by_cases c0:r4=0
   ·exact cv (by rw [c0]) ⟨_,rfl,ff,ff,rfl,Nat.le_refl _,by omega,S4,T4⟩
   ·exact bO (fun z=>c0 (by injection z)) ⟨ff,la,rfl,by omega,by omega,S4,T4⟩
  clear S4 T4 hla
  rintro _ HH ⟨fa,lb,rfl,ab,b24,S4,T4⟩
  refine⟨Gb K t₁ s₁ lw m en i r4 H1,⟨_,rfl,rfl,_,rfl,?_⟩,?_⟩
  ·by_cases c1:r4=1
   ·exact cv (by rw [c1]) ⟨_,rfl,_,_,rfl,rfl,_,_,rfl,0,en - 1,by rw [show ((en - 1:Nat):Int)=(en:Int) - 1 by omega];rfl,Nat.zero_le _,by omega,S4,T4⟩
   ·exact bO (fun z=>c1 (by injection z)) ⟨fa,lb,rfl,ab,b24,S4,T4⟩
  clear S4 T4 ab b24 fa lb
  rintro _ HH ⟨fa,lb,rfl,ab,b24,S4,T4⟩
  refine⟨Gb K t₁ s₁ lw m en i r4 H1,⟨_,rfl,rfl,_,rfl,?_⟩,?_⟩
  ·by_cases c2:r4=2
   rotate_left
   ·exact bO (fun z=>c2 (by injection z)) (bS ⟨fa,lb,rfl,ab,b24,S4,T4⟩)
   subst c2
   refine cD ⟨_,rfl,_,_,rfl,rfl,_,rfl,?_⟩
   by_cases ci:0 < i
   rotate_left
   ·exact bO (by omega) ⟨fa,lb,rfl,ab,b24,S4,T4⟩
   refine cv (by omega) ?_
   obtain⟨y4,e4⟩:=T4.lst
   have hlw4:HH lw=some (.lst xs):=S4.keep _ _ nl hlw
   refine⟨_,rfl,_,rfl,_,rfl,t₁,s₁,i,rfl,T4,by omega,by omega,fun r9 x9_ a9 b9 T9=>?_⟩
   have S9':=S4.trans (bB.up (ys:=x9_) e4)
   have hlwN:upd HH t₁ (.lst x9_) lw=some (.lst xs):=by rw [aJ nl];exact hlw4
   clear T4
   generalize upd HH t₁ (.lst x9_)=HN at T9 S9' hlwN ⊢
   obtain⟨j,rfl⟩:=Int.eq_ofNat_of_zero_le a9
   obtain⟨xw,hxw⟩:∃ xw,xs[j]?=some xw:=⟨_,List.getElem?_eq_getElem (by rw [alw.len];omega)⟩
   obtain⟨w,hw,pw0,xa,rfl,hSw,ra⟩:=alw.at hxw
   have okw0:=okw w (List.mem_of_getElem? hw)
   have hSwN:=bn.step (K:=K) S9' _ _ hSw
   refine⟨lw,_,_,_,rfl,rfl,bj.of hlwN,bv hxw,?_⟩
   refine⟨_,rfl,pw0,_,rfl,hSwN,fun pc HH sQ hpc=>?_⟩
   rw [show dY [V.int (w.1:Nat),V.int (w.2.1:Nat),xa] none (some 2)=[V.int (w.1:Nat),V.int (w.2.1:Nat)] from yf (n:=2) (by show 2≤3;decide)] at hpc
   exact⟨pc,_,rfl,hpc,rfl,_,_,rfl,_,_,rfl,rfl,w.1,w.2.1,rfl,okw0.le,okw0.lt,S9'.trans (bB.same sQ T9.lst),T9.same sQ⟩
  clear S4 T4 ab b24 fa lb
  rintro _ HH ⟨ff,la,rfl,ab,b24,S4,T4⟩
  have kp4:=S4.keep
  have tst4:bn K H1 HH:=bn.step S4
  obtain⟨y4,e4⟩:=T4.lst
  have hlw4:HH lw=some (.lst xs):=kp4 _ _ nl hlw
  refine⟨_,rfl,.inl ⟨rfl,_,bj.of hlw4⟩,?_⟩
  refine⟨_,rfl,_,rfl,_,rfl,t₁,s₁,12,rfl,T4,by omega,by omega,fun r5 x5_ a5 b5 T5=>?_⟩
  have S5:bB t₁ HH _:=bB.up (ys:=x5_) e4
  generalize upd HH t₁ (.lst x5_)=H5 at T5 S5 ⊢
  obtain⟨y5,e5⟩:=T5.lst
  refine⟨_,_,rfl,rfl,FC,fun l6 h6=>?_⟩
  have S6:=S5.trans (bB.new T5.lst h6 (.lst [.int 1,.int 1,.int 2,.int 3,.int 4,.int 7]))
  have n6:l6≠t₁:=fun z=>by subst z;rw [e5] at h6;cases h6
  have T6':=T5.new h6 (.lst [.int 1,.int 1,.int 2,.int 3,.int 4,.int 7])
  obtain⟨y6,e6⟩:=T6'.lst
  have h6':upd H5 l6 (.lst [.int 1,.int 1,.int 2,.int 3,.int 4,.int 7]) l6=some (.lst [.int 1,.int 1,.int 2,.int 3,.int 4,.int 7]):=af
  generalize upd H5 l6 (.lst [.int 1,.int 1,.int 2,.int 3,.int 4,.int 7])=H6 at T6' S6 e6 h6' ⊢
  refine⟨_,rfl,t₁,s₁,6,rfl,T6',by omega,by omega,fun r7 x7_ a7 b7 T7=>?_⟩
  have S7:=S6.trans (bB.up (ys:=x7_) e6)
  have h67:upd H6 t₁ (.lst x7_) l6=some (.lst [.int 1,.int 1,.int 2,.int 3,.int 4,.int 7]):=by rw [aJ n6];exact h6'
  generalize upd H6 t₁ (.lst x7_)=H7 at T7 S7 h67 ⊢
  obtain⟨bb,hbb,bo1,bo2,bo3⟩:∃ b:Int,jm [V.int 1,.int 1,.int 2,.int 3,.int 4,.int 7] r7=some (.int b)/\1≤b/\b≤7/\b∣84:=by
   rcases (show r7=0∨r7=1∨r7=2∨r7=3∨r7=4∨r7=5 by omega) with rfl | rfl | rfl | rfl | rfl | rfl
   ·exact⟨1,rfl,by decide,by decide,by decide⟩
   ·exact⟨1,rfl,by decide,by decide,by decide⟩
   ·exact⟨2,rfl,by decide,by decide,by decide⟩
   ·exact⟨3,rfl,by decide,by decide,by decide⟩
   ·exact⟨4,rfl,by decide,by decide,by decide⟩
   ·exact⟨7,rfl,by decide,by decide,by decide⟩
  refine⟨l6,_,_,_,rfl,rfl,bj.of h67,hbb,?_⟩
  refine⟨1+r5,bb,rfl,by omega,bI (n:=3) (by show bb.natAbs < 8;omega) (by decide),fun pf hpf=>?_⟩
  have am:=Ah (a:=1+r5) (by omega) (by omega) bo1 bo2 bo3
  have s8:=ak hpf (.tup [.int (fe (1+r5) bb).1,.int (fe (1+r5) bb).2])
  have rf:RV K _ (.ref pf) (fe (1+r5) bb):=⟨pf,rfl,aZ.of (af (H:=H7) (a:=pf) (o:=.tup [.int (fe (1+r5) bb).1,.int (fe (1+r5) bb).2]))⟩
  have T8:=T7.same s8
  generalize upd H7 pf (.tup [.int (fe (1+r5) bb).1,.int (fe (1+r5) bb).2])=H8 at T8 s8 rf ⊢
  refine⟨Du,fun pw hpw=>?_⟩
  have s9:=ak hpw (.tup [.int (ff:Nat),.int (la:Nat),.ref pf])
  have hpw9:aZ K _ pw [.int (ff:Nat),.int (la:Nat),.ref pf]:=aZ.of (af (H:=H8) (a:=pw) (o:=.tup [.int (ff:Nat),.int (la:Nat),.ref pf]))
  have T9:=T8.same s9
  have rf9:=rf.mono (bn.same s9)
  generalize upd H8 pw (.tup [.int (ff:Nat),.int (la:Nat),.ref pf])=H9 at T9 s9 rf9 hpw9 ⊢
  have S9:=S7.trans (bB.same (s8.trans s9) T7.lst)
  have hlw9:=S9.keep _ _ nl hlw4
  refine⟨lw,xs,_,rfl,rfl,hlw9,cF (by rw [alw.len];omega),?_⟩
  have t9:bn K H1 (upd H9 lw (.lst (xs++[.ref pw]))):=(tst4.trans (bn.step S9)).trans (bn.up hlw9 _)
  refine⟨_,ws++[(ff,la,fe (1+r5) bb)],_,_,_,_,rfl,T9.upl nl nls _,fun b o nb q=>?_,af,(alw.mono fun v d m=>m.mono t9).snoc ⟨pw,.ref pf,rfl,bn.up (K:=K) hlw9 _ _ _ hpw9,rf9.mono (bn.up hlw9 _)⟩,by rw [List.length_append,hlen];rfl,fun z hz=>?_⟩
  ·rw [aJ (aV q hlw0)]
   exact S9.keep _ _ nb (kp4 _ _ nb (kp b o nb q))
  ·rcases List.mem_append.mp hz with h | h
   ·exact okw z h
   ·rw [List.mem_singleton] at h
    subst h
    exact⟨by show ff≤la;omega,by show la < 24;omega,am⟩
 ·rintro σ H1 ⟨xs,ws,x5,x6,x7,x8,rfl,T1,kp,hlw,alw,hlen,okw⟩
  refine⟨_,rfl,lw,_,rfl,.inl ⟨bj.of hlw,fun p hp=>?_⟩⟩
  have s5:=ak hp (.tup xs)
  exact k (.ref p) ws _ ((S0.trans ⟨kp,T0.lst,T1.lst⟩).trans (bB.same s5 T1.lst)) (T1.same s5) ⟨p,xs,rfl,aZ.of af,alw.mono fun _ _ q=>q.mono (bn.same s5)⟩ (by rw [hlen];omega) okw
theorem Cz (T:eR K mg t):bK P w K mg base d9 1 t.a_Q18 t.d_Q18 ["_law_works_here"] (om K):=by
 refine T.F_Q18.ok Bv (fun vs H Q E h=>?_) (fun cdv A outer s H vs Q E hr h=>?_)
 ·obtain⟨_,_,rfl,_⟩:=h;rfl
 obtain⟨v,ws,rfl,⟨p,xs,rfl,hS,al⟩,hw,ok,k⟩:=h
 refine dU.ok (ah (aC (bR (N':=["_law_work"]) (src:=[none]) rfl (by exact (cO (qv 0))) (fun _ _ _ _ _=>(by exact (by exact aG (i:=0) (by show List.Nodup (["_law_work"]:List Str);decide +kernel) (by exact rfl) (by first | exact Or.inl rfl | exact Or.inr rfl)))) (fun _ _ _ _ _=>cK) (fun _ _ _ _ _=>(by exact (by exact (aB oU (by exact (aB iJ (by exact (cj (bG (K:=K) (by exact rfl)) (by exact (cj (bG (K:=K) (by exact rfl)) (by exact (qv 0)) ae (by exact fun _ _=>rfl))) ae (by exact fun _ _=>rfl))) ae)) (by exact (cj (bG (K:=K) (by exact rfl)) (by exact (cj (bG (K:=K) (by exact rfl)) (by exact (qv 0)) ae (by exact fun _ _=>rfl))) ae (by exact fun _ _=>rfl))))))) (by exact trivial) rfl (by decide +kernel) rfl (by decide +kernel) (by exact bz rfl trivial)))) ?_
 try dsimp only [Cx.nox,Cx.wish,bP]
 have hlen:=al.len
 refine⟨_,rfl,p,rfl,⟨_,hS⟩,fun D hD=>cH (fR hS) (fun _=>true) (fun i=>V.int ((cr ws).getD i 0)) hD (by omega) (fun i x H' hi s' hx R E kR kE=>?_) fun H4 s4 h4=>?_⟩
 ·obtain⟨w,hw',pw,xw,rfl,hSw,px,rfl,hSx⟩:=al.at hx
  have okw:=ok w (List.mem_of_getElem? hw')
  have t':=bn.same (K:=K) s'
  have e:(cr ws).getD i 0=w.2.2.1 * 84 / w.2.2.2:=aN 0 (by unfold cr;rw [List.getElem?_map,hw'];rfl)
  have q:=kR rfl _ (aw.refl _)
  rw [e] at q
  have:=okw.am.bot
  have:=okw.am.bot'
  exact⟨ji.set rfl,_,rfl,pw,_,_,_,rfl,rfl,t' _ _ hSw,rfl,px,_,_,_,rfl,rfl,t' _ _ hSx,rfl,_,_,rfl,rfl,.inr ⟨by decide,by decide⟩,_,rfl,pw,_,_,_,rfl,rfl,t' _ _ hSw,rfl,px,_,_,_,rfl,rfl,t' _ _ hSx,rfl,_,_,rfl,rfl,⟨by omega,by omega⟩,q⟩
 ·refine k D H4 s4 hD ?_
  rw [h4,show xs.length=(cr ws).length by unfold cr;rw [List.length_map];exact hlen,jd 0 V.int]
theorem AM (T:eR K mg t):bK P w K mg base d9 2 t.a_Q9 t.d_Q9 ["_law_works_here", "_law_left"] (jT K):=by
 refine T.F_Q9.ok fG (fun vs H Q E h=>?_) (fun cdv A outer s H vs Q E hr h=>?_)
 ·obtain⟨_,_,_,_,rfl,_⟩:=h;rfl
 obtain⟨v,q,ws,ls,rfl,⟨p,xs,rfl,hS,al⟩,hw,ok,hq,l24,kN,k⟩:=h
 refine dU.ok (ag (cV 2 fG.nd (dA (Cz T) hr T.m_Q18 T.F_Q18.kp T.b_Q18 (aa (qv 0) ad ac)))
   (ag (cV 3 fG.nd (bD ad))
   (aY (bZ PassesOwn.never rfl (dj rfl T.z_range (aa (aj ar (by rfl) T.z_len boot_len (aa (qv 0) ad ac)) ad ao)) (aG (i:=4) fG.nd rfl (by first | exact Or.inl rfl | exact Or.inr rfl))
   (ag (iZ (i:=5) (N':=["_law_k", "_law_left", "_law_works_here", "_law_number"]) (src:=[none,some 1,some 0,some 4]) fG.nd rfl (by first | exact Or.inl rfl | exact Or.inr rfl) rfl (by exact (dj rfl T.z_range (aa (aj ar (by rfl) T.z_len boot_len (aa (qv 1) ad ac)) ad ao))) (fun _ _ _ _ _=>(by exact (by exact aG (i:=0) (by show List.Nodup (["_law_k", "_law_left", "_law_works_here", "_law_number"]:List Str);decide +kernel) (by exact rfl) (by first | exact Or.inl rfl | exact Or.inr rfl)))) (fun _ _ _ _ _=>(gX (qo nz nz (by exact (cj (bG (K:=K) (by exact rfl)) (by exact (cj (bG (K:=K) (by exact rfl)) (by exact (qv 2)) (by exact (qv 3)) (by exact fun _ _=>rfl))) ae (by exact fun _ _=>rfl))) (by exact (cj (qE (K:=K) (by exact rfl)) (by exact (qv 1)) (by exact (qv 0)) (by exact fun _ _=>rfl))) (by exact (cj (bG (K:=K) (by exact rfl)) (by exact (cj (bG (K:=K) (by exact rfl)) (by exact (qv 2)) (by exact (qv 3)) (by exact fun _ _=>rfl))) ae (by exact fun _ _=>rfl)))))) (fun _ _ _ _ _=>(by exact (by exact (qv 0)))) (by exact⟨rfl,rfl,rfl,rfl,⟨rfl,rfl,rfl,rfl,⟨rfl,rfl,rfl,rfl,trivial⟩⟩⟩) rfl (by decide +kernel) rfl (by decide +kernel) (by exact bz rfl ⟨rfl,⟨rfl,⟨rfl,trivial⟩⟩⟩))
   (ah (bh (aH iw (aj ar (by rfl) T.z_len boot_len (aa (qv 5) ad ac)) ae (aK _)) (ah (dh (io PySem.F.plainAttrs_list PySem.F.slot_list_append PySem.F.type_list_append dG (qv 3) (aa (az (aa (bX bH (qv 5) ae) (aa (bX bH (qv 5) (fH dJ ae)) (aa (qv 4) ad ac) aD) aD)) ad aF)))) aE))))
   (ag (cV 6 fG.nd (az (aa ae (aa ae (aa ae (aa (bD ad) ad gg) ap) ap) ap)))
   (aY (bZ PassesOwn.never rfl (dj rfl T.z_range (aa (aj ar (by rfl) T.z_len boot_len (aa (qv 1) ad ac)) ad ao)) (aG (i:=7) fG.nd rfl (by first | exact Or.inl rfl | exact Or.inr rfl))
   (ah (bZ PassesOwn.never rfl (ej rfl T.z_range (aa (qv 7) (aa (aj ar (by rfl) T.z_len boot_len (aa (qv 1) ad ac)) ad ao) ac)) (aG (i:=8) fG.nd rfl (by first | exact Or.inl rfl | exact Or.inr rfl))
   (aY (iZ (i:=9) (N':=["_law_span", "_law_begin", "_law_end"]) (src:=[none,some 7,some 8]) fG.nd rfl (by first | exact Or.inl rfl | exact Or.inr rfl) rfl (by exact (fc (qv 3))) (fun _ _ _ _ _=>(by exact (by exact aG (i:=0) (by show List.Nodup (["_law_span", "_law_begin", "_law_end"]:List Str);decide +kernel) (by exact rfl) (by first | exact Or.inl rfl | exact Or.inr rfl)))) (fun _ _ _ _ _=>(gX (gi (oM (aH nz (by exact (qv 1)) (by exact (cj (bG (K:=K) (by exact rfl)) (by exact (qv 0)) ae (by exact fun _ _=>rfl))) (aK _)) (oK (aH nz (by exact (cj (bG (K:=K) (by exact rfl)) (by exact (qv 0)) ae (by exact fun _ _=>rfl))) (by exact (qv 2)) (aK _))))))) (fun _ _ _ _ _=>(by exact (by exact (cj (bG (K:=K) (by exact rfl)) (by exact (qv 0)) ae (by exact fun _ _=>rfl))))) (by exact⟨rfl,rfl,rfl,rfl,⟨rfl,rfl,rfl,rfl,trivial⟩⟩) rfl (by decide +kernel) rfl (by decide +kernel) (by exact bz rfl ⟨rfl,⟨rfl,trivial⟩⟩))
   (aY (cV 10 fG.nd (aj (jC rfl) (by rfl) T.z_sum boot_sum (aa (bR (N':=["_law_number", "_law_units_here"]) (src:=[none,some 2]) rfl (by exact (fc (qv 9))) (fun _ _ _ _ _=>(by exact (by exact aG (i:=0) (by show List.Nodup (["_law_number", "_law_units_here"]:List Str);decide +kernel) (by exact rfl) (by first | exact Or.inl rfl | exact Or.inr rfl)))) (fun _ _ _ _ _=>cK) (fun _ _ _ _ _=>(by exact (by exact (cj (qE (K:=K) (by exact rfl)) (by exact (qv 1)) (by exact (qv 0)) (by exact fun _ _=>rfl))))) (by exact⟨rfl,rfl,rfl,rfl,trivial⟩) rfl (by decide +kernel) rfl (by decide +kernel) (by exact bz rfl ⟨rfl,trivial⟩)) ad cM)))
   (ag (cV 11 fG.nd (aB cI (aB fS (qv 8) (qv 7)) ae))
   (ag (cV 12 fG.nd (aB fS (aB iJ (qv 10) (bX ay (qv 6) ae)) (aB iJ (bX ay (qv 6) ae) (qv 11))))
   (ah (bh (gi (im (aH iw (qv 12) ae (aK _)) (gj (gi (oM (aH df (qv 12) ae (aK _)) (oM (aH iw (qv 10) ae (aK _)) (oK (aH df (qv 7) (bX ay (qv 6) ae) (aK _))))))))) (ah (cV 6 fG.nd (az (aa (qv 10) (aa (qv 11) (aa (qv 7) (aa (qv 9) ad ac) ac) ac) ac)))) aE)))))))))
   (ag (bh (aH df (bX ay (qv 6) ae) ae (aK _)) (ah (aC dM)) aE)
   (ah (aC (az (aa (bc br (by rfl) T.z_tuple boot_tuple (aa (bE gU (qv 1) (bM (bX ay (qv 6) ae)) (bM (aB cI (bX ay (qv 6) ae) (bX ay (qv 6) ae)))) ad aD)) (aa (bc br (by rfl) T.z_tuple boot_tuple (aa (bX ay (qv 6) ae) ad aD)) ad ao) ao)))))))))) ?_
 try dsimp only [Cx.nox,Cx.wish,bP]
 have nl:(au ls).length=ls.length:=List.length_map _
 have hxl:=al.len
 refine⟨_,rfl,.ref p,ws,rfl,⟨p,xs,rfl,hS,al⟩,hw,ok,fun lu H1 s1 hu0 hu1=>?_⟩
 refine⟨(by show 0≤sizeLine;exact Nat.zero_le _),fun lsn hsn=>?_⟩
 have s2:=ak hsn (.lst [])
 have s12:=s1.trans s2
 have hsn2:upd H1 lsn (.lst []) lsn=some (.lst []):=af
 intro R2 kC2
 refine⟨_,rfl,p,_,rfl,.inr (bn.same (K:=K) s12 _ _ hS),_,rfl,by omega,by omega,dk (lo:=0) (n:=(xs.length:Int).toNat) (fun i σ H'=>∃ (ys:List V) (x4 x5:Option V),σ=[some (.ref p),some (.ref q),some (.ref lu),some (.ref lsn),x4,x5,none,none,none,none,none,none,none]/\aw H1 H'/\H' lsn=some (.lst ys)/\cL (Fx K H') ys (vF (ws.map (cq ls)) i)) ⟨[],none,none,rfl,s2,hsn2,.nil⟩ ?_ ?_⟩
 ·rintro i σ H2 hi ⟨ys,x4,x5,rfl,sm,hl2,al2⟩
  rw [Int.zero_add]
  have sH2:=s1.trans sm
  have tH2:=bn.same (K:=K) sH2
  obtain⟨x,hx⟩:∃ x,xs[i]?=some x:=⟨_,List.getElem?_eq_getElem (by omega)⟩
  obtain⟨w,hwi,pw,xa,rfl,hSw,ra⟩:=al.at hx
  refine⟨_,rfl,q,_,rfl,.inl (sH2.seq hq),_,rfl,by omega,by omega,fun D hD=>cH gT (fun j=>xK w (ls.getD j 0)) (fun j=>V.int j) hD (by omega) (fun j y H' hj s' hy R E kR kE=>?_) fun H4 s4 h4=>?_⟩
  ·subst hy
   rw [Int.zero_add]
   have tH:=bn.same (K:=K) (sH2.trans s')
   obtain⟨z',hz'⟩:∃ z',ls[j]?=some z':=⟨_,List.getElem?_eq_getElem (by omega)⟩
   rw [aN 0 hz'] at kR kE
   refine⟨ji.set rfl,_,rfl,_,rfl,p,_,_,_,rfl,rfl,tH _ _ hS,bv hx,pw,_,_,_,rfl,rfl,tH _ _ hSw,rfl,_,rfl,_,rfl,q,_,_,_,rfl,rfl,(sH2.trans s').seq hq,bv (v:=V.int (z':Nat)) (by unfold au;rw [List.getElem?_map,hz'];rfl),_,_,rfl,rfl,_,rfl,?_⟩
   by_cases c:w.1≤z'
   ·refine cv (by omega) ?_
    refine⟨_,rfl,_,rfl,p,_,_,_,rfl,rfl,tH _ _ hS,bv hx,pw,_,_,_,rfl,rfl,tH _ _ hSw,rfl,_,_,rfl,rfl,_,rfl,?_⟩
    by_cases c':z'≤w.2.1
    ·exact cv (by omega) ⟨_,rfl,kR (by unfold xK;rw [decide_eq_true c,decide_eq_true c'];rfl) _ (aw.refl _)⟩
    ·exact bO (by omega) (kE (by unfold xK;rw [decide_eq_false c',Bool.and_false]) _ (aw.refl _))
   ·refine bO (by omega) ?_
    exact⟨_,rfl,bS (kE (by unfold xK;rw [decide_eq_false c,Bool.false_and]) _ (aw.refl _))⟩
  rw [nl,show ((ls.length:Int)).toNat=ls.length by omega] at h4
  replace h4:H4 D=some (.lst ((ig ls w).map fun i:Nat=>V.int i)):=h4
  have hl4:=s4 _ _ hl2
  have ewi:(ws.map (cq ls)).getD i none=cq ls w:=aN none (by rw [List.getElem?_map,hwi];rfl)
  have hle:=al2.len
  have hle':=tG (ws.map (cq ls)) i
  refine⟨_,rfl,D,_,rfl,.inl (bj.of h4),_,_,rfl,rfl,_,rfl,?_⟩
  cases c:ig ls w with
  | nil=>
   rw [c] at h4
   refine bS ?_
   refine⟨ys,_,_,rfl,sm.trans s4,hl4,?_⟩
   have e:cq ls w=none:=by unfold cq;rw [c]
   rw [e] at ewi
   rw [v4 ewi]
   exact al2.mono fun _ _ m=>m.mono (bn.same s4)
  | cons a r=>
   rw [c] at h4
   refine cv (by show (0:Int) < ((List.map (fun i:Nat=>V.int i) (a :: r)).length:Int);rw [List.length_map,List.length_cons];omega) ?_
   have hlast:jm ((a :: r).map fun i:Nat=>V.int i) (-1)=some (.int ((a :: r).getLast (by simp):Nat)):=by
    have e:=List.dropLast_concat_getLast (show (a :: r)≠[] by simp)
    have e2:(a :: r).map (fun i:Nat=>V.int i)=(a :: r).dropLast.map (fun i:Nat=>V.int i)++[V.int ((a :: r).getLast (by simp):Nat)]:=by
     conv=>lhs;rw [← e]
     rw [List.map_append];rfl
    rw [e2]
    exact qW _ _
   have hfst:jm ((a :: r).map fun i:Nat=>V.int i) 0=some (.int (a:Nat)):=bv (j:=0) rfl
   have e:cq ls w=some (a,(a :: r).getLast (by simp)):=by unfold cq;rw [c]
   rw [e] at ewi
   refine⟨_,rfl,.inl ⟨rfl,_,bj.of hl4⟩,_,rfl,D,_,_,_,rfl,rfl,bj.of h4,hfst,_,rfl,_,rfl,D,_,_,_,rfl,rfl,bj.of h4,hlast,_,rfl,Du,fun pt hpt=>?_⟩
   have s5:=ak hpt (.tup [.int a,.int ((a :: r).getLast (by simp):Nat),.int i])
   have hl5:=s5 _ _ hl4
   refine⟨lsn,_,_,rfl,rfl,hl5,cF (by omega),?_⟩
   refine⟨_,_,_,rfl,?_,af,?_⟩
   ·intro b o e
    rw [aJ (aV e hsn)]
    exact s5 _ _ (s4 _ _ (sm _ _ e))
   ·rw [v3 ewi]
    refine (al2.mono fun v d m=>m.mono (((bn.same s4).trans (bn.same s5)).trans (bn.up hl5 _))).snoc ?_
    exact⟨pt,rfl,bn.up (K:=K) hl5 _ _ _ (aZ.of af)⟩
 ·rintro σ H2 ⟨ys,x4,x5,rfl,sm,hl2,al2⟩
  refine kC2 _ _ ?_
  have hos:(ws.map (cq ls)).length=ws.length:=List.length_map _
  rw [show ((xs.length:Int)).toNat=(ws.map (cq ls)).length by rw [hos];omega] at al2
  have hyl:=al2.len
  have hyl':=tG (ws.map (cq ls)) (ws.map (cq ls)).length
  have LB:=fun r=>zN (os:=ws.map (cq ls)) (pQ ok) (by omega) r
  have held:=rJ (ws.map (cq ls))
  have hul:(cr ws).length=ws.length:=List.length_map _
  generalize hO:ws.map (cq ls)=os at *
  generalize hL:gB os (lX (cr ws))=L at *
  have sH2:=s1.trans sm
  have hu2:H2 lu=some (.lst ((cr ws).map V.int)):=sm _ _ hu1
  refine⟨(by show 0≤sizeLine;exact Nat.zero_le _),fun l0 h0=>?_⟩
  have s3:=ak h0 (.lst [])
  refine⟨Aq,fun pb0 hpb0=>?_⟩
  have s4:=ak hpb0 (.tup [.int 0,.int 1,.int 0,.ref l0])
  have hb0:aZ K _ pb0 [.int 0,.int 1,.int 0,.ref l0]:=aZ.of (af (H:=upd H2 l0 (.lst [])) (a:=pb0) (o:=.tup [.int 0,.int 1,.int 0,.ref l0]))
  have s34:=s3.trans s4
  generalize upd (upd H2 l0 (.lst [])) pb0 (.tup [.int 0,.int 1,.int 0,.ref l0])=H3 at s34 hb0 ⊢
  intro R6 kC6
  refine⟨_,rfl,q,_,rfl,.inl ((sH2.trans s34).seq hq),_,rfl,by omega,by omega,dk (lo:=0) (n:=((au ls).length:Int).toNat) (fun i σ H'=>∃ (pb:Addr) (x7 x8 x9 x10 x11 x12:Option V),σ=[some (.ref p),some (.ref q),some (.ref lu),some (.ref lsn),x4,x5,some (.ref pb),x7,x8,x9,x10,x11,x12]/\aw H2 H'/\nZ K H' os (eN ls.length i i) L pb) ⟨pb0,none,none,none,none,none,none,rfl,s34,0,1,0,l0,hb0,.inl ⟨rfl,rfl,rfl,fun r hr=>?_⟩⟩ ?_ ?_⟩
  ·unfold eN jX at hr;omega
  ·rintro i σ HA hi ⟨pb,x7,x8,x9,x10,x11,x12,rfl,sA,best⟩
   rw [Int.zero_add]
   have sHA:=sH2.trans sA
   refine⟨_,rfl,_,rfl,q,_,rfl,.inl (sHA.seq hq),_,_,rfl,⟨by omega,by omega,by omega,by omega⟩,dk (lo:=i) (n:=(((au ls).length:Int) - i).toNat) (fun j σ H'=>∃ (pb:Addr) (x8 x9 x10 x11 x12:Option V),σ=[some (.ref p),some (.ref q),some (.ref lu),some (.ref lsn),x4,x5,some (.ref pb),some (.int i),x8,x9,x10,x11,x12]/\aw H2 H'/\nZ K H' os (eN ls.length i (i+j)) L pb) ⟨pb,x8,x9,x10,x11,x12,rfl,sA,best⟩ ?_ ?_⟩
   ·rintro j σ HB hj ⟨pb,x8,x9,x10,x11,x12,rfl,sB,best⟩
    rw [show (i:Int)+(j:Int)=((i+j:Nat):Int) by omega,show i+(j+1)=i+j+1 from rfl]
    obtain⟨e,he⟩:∃ e,e=i+j:=⟨_,rfl⟩
    rw [← he] at best ⊢
    have hen:e < ls.length:=by omega
    have hie:i≤e:=by omega
    have hlB:=sB _ _ hl2
    have tB:=bn.same (K:=K) sB
    intro R8 kC8
    refine⟨_,rfl,lsn,rfl,⟨_,bj.of hlB⟩,fun D hD=>cH (jZ (bj.of hlB)) (fun m=>qH (i,e) ((vF os os.length).getD m (0,0,0))) (fun m=>V.int (((vF os os.length).getD m (0,0,0)).2.2:Nat)) hD (by omega) (fun m x H' hm s' hx R E kR kE=>?_) fun HC sC hC=>?_⟩
    ·obtain⟨sp,hsp,ps,rfl,hps⟩:=al2.at hx
     rw [aN (0,0,0) hsp] at kR kE
     have hps':=bn.same (K:=K) (sB.trans s') _ _ hps
     refine⟨ji.set rfl,_,rfl,_,rfl,ps,_,_,_,rfl,rfl,hps',rfl,_,_,rfl,rfl,_,rfl,?_⟩
     by_cases c:i≤sp.1
     ·refine cv (by omega) ?_
      refine⟨_,rfl,ps,_,_,_,rfl,rfl,hps',rfl,_,rfl,_,_,rfl,rfl,_,rfl,?_⟩
      by_cases c':sp.2.1≤e
      ·exact cv (by omega) ⟨_,rfl,ps,_,_,_,rfl,rfl,hps',rfl,kR (by show (decide (i≤sp.1) && decide (sp.2.1≤e))=true;rw [decide_eq_true c,decide_eq_true c'];rfl) _ (aw.refl _)⟩
      ·exact bO (by omega) (kE (by show (decide (i≤sp.1) && decide (sp.2.1≤e))=false;rw [decide_eq_false c',Bool.and_false]) _ (aw.refl _))
     ·exact bO (by omega) (bS (kE (by show (decide (i≤sp.1) && decide (sp.2.1≤e))=false;rw [decide_eq_false c,Bool.false_and]) _ (aw.refl _)))
    have eC:HC D=some (.lst (au (cw os (i,e)))):=by
     rw [hC,hyl,gO (0,0,0) (qH (i,e)) (fun s:Nat×Nat×Nat=>V.int (s.2.2:Nat)),← held (i,e)]
     unfold au
     rw [List.map_map]
     rfl
    refine kC8 _ _ ?_
    intro R9 kC9
    refine⟨_,rfl,D,rfl,⟨_,bj.of eC⟩,fun E hE=>cH (jZ (bj.of eC)) (fun _=>true) (fun m=>V.int (lX (cr ws) ((cw os (i,e)).getD m 0))) hE ?_ (fun m x H' hm s' hx R E kR kE=>?_) fun HE sE hE4=>?_⟩
    ·unfold au cw
     rw [List.length_map]
     have:=List.length_filter_le (fun i_1=>fL i e (os.getD i_1 none)) (List.range os.length)
     rw [List.length_range] at this
     exact Nat.le_trans this (by omega)
    ·unfold au at hx
     rw [List.getElem?_map] at hx
     obtain⟨z,hz,rfl⟩:=Option.map_eq_some_iff.mp hx
     have qq:=kR rfl _ (aw.refl _)
     rw [aN 0 hz] at qq
     have hzl:z < os.length:=by
      have:=List.mem_of_getElem? hz
      unfold cw at this
      exact List.mem_range.mp (List.mem_filter.mp this).1
     obtain⟨y,hy⟩:∃ y,(cr ws)[z]?=some y:=⟨_,List.getElem?_eq_getElem (by omega)⟩
     rw [show lX (cr ws) z=y from aN 0 hy] at qq
     exact⟨ji.set rfl,_,rfl,_,rfl,lu,_,_,_,rfl,rfl,((sB.trans sC).trans s').seq (bj.of hu2),bv (by rw [List.getElem?_map,hy];rfl),qq⟩
    have e4:HE E=some (.lst (((cw os (i,e)).map (lX (cr ws))).map V.int)):=by
     rw [hE4,show (au (cw os (i,e))).length=(cw os (i,e)).length from List.length_map _,jd 0 (fun k=>V.int (lX (cr ws) k)),List.map_map]
     rfl
    have sBE:=sC.trans sE
    have sHE:=sB.trans sBE
    have eDE:=sE _ _ eC
    refine⟨E,_,rfl,bj.of e4,?_⟩
    have eL:((cw os (i,e)).map (lX (cr ws))).sum=L (i,e):=by rw [← hL];rfl
    rw [eL]
    have lb:=LB (i,e)
    have lp:1≤dg (i,e)/\dg (i,e)≤24:=by show 1≤(e:Int) - i+1/\(e:Int) - i+1≤24;omega
    refine kC9 _ _ ?_
    refine⟨_,rfl,_,rfl,_,_,rfl,rfl,_,_,rfl,rfl,?_⟩
    obtain⟨mn,ln,bg,lbb,hpb,bst⟩:=best
    have hpbE:=bn.same (K:=K) sBE _ _ hpb
    have bl:0≤mn/\mn≤64512/\0 < ln:=by
     rcases bst with ⟨r1,r2,_⟩ | ⟨z,r0,r1,r2,_,_,b⟩
     ·omega
     ·have:=LB z
      have:=(show jX ls.length z from b.inn.1).pos
      omega
    refine⟨_,rfl,_,rfl,pb,_,_,_,rfl,rfl,hpbE,rfl,_,_,rfl,rfl,.inl ⟨by omega,by omega⟩,_,rfl,pb,_,_,_,rfl,rfl,hpbE,rfl,_,rfl,_,_,rfl,rfl,.inl ⟨by omega,by omega⟩,_,_,rfl,rfl,?_⟩
    have st:=fun r=>rK (n:=ls.length) (b:=i) (e:=e) hie hen r
    have secs:∀ r,eN ls.length i (e+1) r->jX ls.length r:=fun r hr=>hr.1
    refine⟨_,rfl,_,_,rfl,rfl,_,rfl,?_⟩
    by_cases c:0 < L (i,e) * ln - mn * dg (i,e)
    ·refine cv c (cD ?_)
     refine⟨_,rfl,_,rfl,_,rfl,_,rfl,Aq,fun pn hpn=>?_⟩
     have s5:=ak hpn (.tup [.int (L (i,e)),.int (dg (i,e)),.int (i:Nat),.ref D])
     refine⟨pn,_,_,_,_,_,rfl,sHE.trans s5,L (i,e),dg (i,e),(i:Nat),D,aZ.of af,.inr ⟨(i,e),?_,rfl,rfl,rfl,s5.seq (bj.of eDE),?_⟩⟩
     ·rcases bst with ⟨r1,r2,_⟩ | ⟨z,r0,r1,r2,_,_,b⟩
      ·subst r1 r2
       omega
      ·exact yj (ln:=ln) lb.1 (show 0 < mn by omega) (show 0 < dg (i,e) by omega) (by omega)
     ·rcases bst with ⟨r1,r2,_,z⟩ | ⟨z,r0,r1,r2,_,_,b⟩
      ·subst r1 r2
       exact Af st secs z (by omega)
      ·subst r1 r2
       exact b.more secs st (by omega)
    refine bO c ?_
    have stay:nZ K HE os (eN ls.length i (e+1)) L pb∨(L (i,e) * ln - mn * dg (i,e)=0/\0 < L (i,e)/\(i:Int)=bg):=by
     rcases bst with ⟨r1,r2,r3,z⟩ | ⟨z,r0,r1,r2,r3,r4,b⟩
     ·refine .inl ⟨mn,ln,bg,lbb,hpbE,.inl ⟨r1,r2,r3,fun r hr=>?_⟩⟩
      rcases (st r).mp hr with h | h
      ·exact z r h
      ·subst r1 r2
       rw [h]
       omega
     ·by_cases cc:L (i,e) * ln - mn * dg (i,e)=0/\0 < L (i,e)/\(i:Int)=bg
      ·exact .inr cc
      ·refine .inl ⟨mn,ln,bg,lbb,hpbE,.inr ⟨z,r0,r1,r2,r3,sBE.seq r4,?_⟩⟩
       have inn:=b.inn
       unfold eN at inn
       subst r1 r2 r3
       refine b.stay st (by omega) ?_
       by_cases c0:L (i,e) * dg z=L z * dg (i,e)
       ·left
        have lpos:=yj (ln:=dg z) lb.1 r0 (show 0 < dg (i,e) by omega) (by omega)
        have ne:¬ (i:Int)=(z.1:Int):=fun h=>cc ⟨by omega,lpos,h⟩
        unfold pH
        show z.1 < i∨_
        omega
       ·exact .inr c0
    refine⟨_,rfl,rfl,_,rfl,?_⟩
    by_cases c0:L (i,e) * ln - mn * dg (i,e)=0
    ·refine cv (congrArg V.int c0) ?_
     refine⟨_,rfl,_,_,rfl,rfl,_,rfl,?_⟩
     by_cases cm:0 < L (i,e)
     ·refine cv cm ?_
      refine⟨_,rfl,_,rfl,pb,_,_,_,rfl,rfl,hpbE,rfl,rfl,_,rfl,?_⟩
      by_cases cb:(i:Int)=bg
      ·refine cv (congrArg V.int cb) ?_
       refine⟨_,rfl,_,rfl,_,rfl,_,rfl,Aq,fun pn hpn=>?_⟩
       have s5:=ak hpn (.tup [.int (L (i,e)),.int (dg (i,e)),.int (i:Nat),.ref D])
       refine⟨pn,_,_,_,_,_,rfl,sHE.trans s5,L (i,e),dg (i,e),(i:Nat),D,aZ.of af,.inr ⟨(i,e),cm,rfl,rfl,rfl,s5.seq (bj.of eDE),?_⟩⟩
       rcases bst with ⟨r1,r2,_,z⟩ | ⟨z,r0,r1,r2,r3,_,b⟩
       ·subst r1 r2
        omega
       ·have inn:=b.inn
        unfold eN at inn
        subst r1 r2 r3
        exact b.longer secs st (by omega) (show i=z.1 by omega) (show z.2≤e by omega)
      ·refine bO (fun z=>cb (by injection z)) ?_
       rcases stay with h | h
       ·exact⟨pb,_,_,_,_,_,rfl,sHE,h⟩
       ·exact absurd h.2.2 cb
     ·refine bO cm (bS ?_)
      rcases stay with h | h
      ·exact⟨pb,_,_,_,_,_,rfl,sHE,h⟩
      ·exact absurd h.2.1 cm
    ·refine bO (fun z=>c0 (by injection z)) (bS ?_)
     rcases stay with h | h
     ·exact⟨pb,_,_,_,_,_,rfl,sHE,h⟩
     ·exact absurd h.1 c0
   ·rintro σ HB ⟨pb,x8,x9,x10,x11,x12,rfl,sB,best⟩
    refine⟨pb,_,_,_,_,_,_,rfl,sB,best.mono (aw.refl _) fun r=>?_⟩
    rw [show i+(((au ls).length:Int) - (i:Int)).toNat=ls.length by omega]
    exact rL r
  ·rintro σ HA ⟨pb,x7,x8,x9,x10,x11,x12,rfl,sA,mn,ln,bg,lb,hpb,best⟩
   refine kC6 _ _ ?_
   rw [show ((au ls).length:Int).toNat=ls.length by omega] at best
   have sHA:=sH2.trans sA
   refine⟨_,rfl,pb,_,_,_,rfl,rfl,hpb,rfl,rfl,_,rfl,?_⟩
   rcases best with ⟨r1,r2,r3,z⟩ | ⟨z,r0,r1,r2,r3,r4,b⟩
   ·subst r1
    exact cv rfl (kN HA sHA (zM ok fun r hr=>by rw [hO,hL];exact z r ((mB r).mp hr)))
   ·subst r1 r2 r3
    refine bO (fun h=>by injection h;omega) ?_
    have sec:jX ls.length z:=b.inn.1
    have c1:z.1≤z.2:=sec.1
    have c2:z.2 < ls.length:=sec.2
    refine⟨_,rfl,_,rfl,pb,_,_,_,rfl,rfl,hpb,rfl,_,rfl,_,rfl,pb,_,_,_,rfl,rfl,hpb,rfl,_,rfl,pb,_,_,_,rfl,rfl,hpb,rfl,_,_,rfl,rfl,_,rfl,q,_,rfl,sHA.seq hq,fun pc0 hpc0=>?_⟩
    rw [show (z.1:Int)+dg z=((z.2+1:Nat):Int) by unfold dg;omega,Ac (by omega) (by omega)]
    have s5:=ak hpc0 (.lst (au ((ls.drop z.1).take (z.2+1 - z.1))))
    refine⟨pc0,_,rfl,.inl ⟨bj.of af,fun pc hpc=>?_⟩⟩
    have s6:=ak hpc (.tup (au ((ls.drop z.1).take (z.2+1 - z.1))))
    have s56:=s5.trans s6
    refine⟨_,rfl,pb,_,_,_,rfl,rfl,bn.same (K:=K) s56 _ _ hpb,rfl,lb,_,rfl,.inl ⟨s56.seq r4,fun pe hpe=>?_⟩⟩
    have s7:=ak hpe (.tup (au (cw os z)))
    refine⟨dE,fun pr hpr=>?_⟩
    have s8:=ak hpr (.tup [.ref pc,.ref pe])
    have it:yD ws ls z:=⟨by rw [hO,hL];exact b.congr mB,by rw [hO,hL];exact r0⟩
    refine k (.ref pr) z _ (by intro h;cases h) (((sHA.trans s56).trans s7).trans s8) it ?_
    have e:pI ws ls z=(fw ls z,cw os z):=by unfold pI;rw [hO]
    rw [e]
    exact⟨pr,pc,pe,rfl,aZ.of af,bn.same (K:=K) (s7.trans s8) _ _ (aZ.of af),bn.same (K:=K) s8 _ _ (aZ.of af)⟩
theorem CD (T:eR K mg t):bK P w K mg base d9 3 t.a_Q13 t.d_Q13 ["_law_works_here"] (lP K):=by
 refine T.F_Q13.ok ju (fun vs H Q E h=>?_) (fun cdv A outer s H vs Q E hr h=>?_)
 ·obtain⟨_,_,rfl,_⟩:=h;rfl
 obtain⟨v,ws,rfl,⟨p,xs,rfl,hS,al⟩,hw,ok,k⟩:=h
 refine dU.ok (ag (cV 1 ju.nd (bc (sJ rfl) (by rfl) T.z_list boot_list (aa (oO rfl T.z_range (aa ae ad ap)) ad ao)))
   (ag (cV 2 ju.nd (bD ad))
   (ag (cV 3 ju.nd (dA (AM T) hr T.m_Q9 T.F_Q9.kp T.b_Q9 (aa (qv 0) (aa (qv 1) ad ac) ac)))
   (ag (kI PassesOwn.never (aH oR (qv 3) dM (aK _))
   (ag (dh (io PySem.F.plainAttrs_list PySem.F.slot_list_append PySem.F.type_list_append dG (qv 2) (aa (qv 3) ad ac)))
   (ag (iZ (i:=1) (N':=["_law_turn", "_law_layer"]) (src:=[none,some 3]) ju.nd rfl (by first | exact Or.inl rfl | exact Or.inr rfl) rfl (by exact (fc (qv 1))) (fun _ _ _ _ _=>(by exact (by exact aG (i:=0) (by show List.Nodup (["_law_turn", "_law_layer"]:List Str);decide +kernel) (by exact rfl) (by first | exact Or.inl rfl | exact Or.inr rfl)))) (fun _ _ _ _ _=>(gX (aH (fq (K:=K) (by exact rfl)) (by exact (qv 0)) (by exact (cj (bG (K:=K) (by exact rfl)) (by exact (qv 1)) ae (by exact fun _ _=>rfl))) (by with_unfolding_all rfl)))) (fun _ _ _ _ _=>(by exact (by exact (qv 0)))) (by exact⟨rfl,rfl,rfl,rfl,trivial⟩) rfl (by decide +kernel) rfl (by decide +kernel) (by exact bz rfl ⟨rfl,trivial⟩))
   (ah (cV 3 ju.nd (dA (AM T) hr T.m_Q9 T.F_Q9.kp T.b_Q9 (aa (qv 0) (aa (qv 1) ad ac) ac)))))))
   (ah (aC (qv 2))))))) ?_
 try dsimp only [Cx.nox,Cx.wish,bP]
 have hlen:=al.len
 refine⟨_,rfl,fun pr hpr=>?_⟩
 have s1:=ak hpr (.rng 0 24)
 refine⟨pr,24,rfl,af,by decide,fun q0 hq0=>?_⟩
 have s2:=ak hq0 (.lst ((B.upTo 24).map V.int))
 have hq2:upd (upd H pr (.rng 0 24)) q0 (.lst ((B.upTo 24).map V.int)) q0=some (.lst (au (List.range 24))):=by
  have e:au (List.range 24)=(B.upTo 24).map V.int:=by unfold au B.upTo;rw [List.map_map];rfl
  rw [e]
  exact af
 have s12:=s1.trans s2
 generalize upd (upd H pr (.rng 0 24)) q0 (.lst ((B.upTo 24).map V.int))=HA at hq2 s12 ⊢
 refine⟨(by show 0≤sizeLine;exact Nat.zero_le _),fun l h0=>?_⟩
 have nql:q0≠l:=fun z=>by subst z;rw [hq2] at h0;cases h0
 have h00:H l=none:=by
  cases e:H l with
  | none=>rfl
  | some o=>rw [s12 _ _ e] at h0;cases h0
 have s3:=ak h0 (.lst [])
 have hl3:upd HA l (.lst []) l=some (.lst []):=af
 have hq3:=s3 _ _ hq2
 have s03:=s12.trans s3
 generalize upd HA l (.lst [])=HB at hl3 hq3 s03 ⊢
 have nf:=zI ok
 refine⟨_,rfl,_,rfl,.ref p,q0,ws,List.range 24,rfl,⟨p,xs,rfl,bn.same (K:=K) s03 _ _ hS,al.mono fun _ _ m=>m.mono (bn.same s03)⟩,hw,ok,bj.of hq3,by decide,(fun HC s4 z0=>?_),fun x0 pl0 HC ne0 s4 it0 lv0=>?_⟩
 refine⟨fun m σ H'=>∃ (acc:List (List Nat×List Nat)) (ys:List V) (q:Addr) (ls:List Nat) (x:V),σ=[some (.ref p),some (.ref q),some (.ref l),some x]/\aw H H'/\H' l=some (.lst ys)/\cL (gR K H') ys acc/\H' q=some (.lst (au ls))/\q≠l/\ls.Nodup/\(∀ t∈ls,t < 24)/\ls.length≤24/\acc.length+lS ws ls≤ws.length/\(∀ y∈acc,dH ws.length y)/\(∀ r,re ws ls r->re ws (List.range 24) (acc++r))/\m=lS ws ls/\((x=.non/\lS ws ls=0)∨∃ pl,x≠.non/\yD ws ls pl/\gR K H' x (pI ws ls pl)),⟨_,[],[],q0,List.range 24,_,rfl,s03.trans s4,s4 _ _ hl3,.nil,s4 _ _ hq3,nql,List.nodup_range,(fun t ht=>List.mem_range.mp ht),by decide,(by rw [nf];exact Nat.le_of_eq (Nat.zero_add _)),(fun y hy=>by cases hy),(fun r h=>h),rfl,.inl ⟨rfl,z0⟩⟩,?_⟩
 rotate_left
 refine⟨fun m σ H'=>∃ (acc:List (List Nat×List Nat)) (ys:List V) (q:Addr) (ls:List Nat) (x:V),σ=[some (.ref p),some (.ref q),some (.ref l),some x]/\aw H H'/\H' l=some (.lst ys)/\cL (gR K H') ys acc/\H' q=some (.lst (au ls))/\q≠l/\ls.Nodup/\(∀ t∈ls,t < 24)/\ls.length≤24/\acc.length+lS ws ls≤ws.length/\(∀ y∈acc,dH ws.length y)/\(∀ r,re ws ls r->re ws (List.range 24) (acc++r))/\m=lS ws ls/\((x=.non/\lS ws ls=0)∨∃ pl,x≠.non/\yD ws ls pl/\gR K H' x (pI ws ls pl)),⟨_,[],[],q0,List.range 24,_,rfl,s03.trans s4,s4 _ _ hl3,.nil,s4 _ _ hq3,nql,List.nodup_range,(fun t ht=>List.mem_range.mp ht),by decide,(by rw [nf];exact Nat.le_of_eq (Nat.zero_add _)),(fun y hy=>by cases hy),(fun r h=>h),rfl,.inr ⟨pl0,ne0,it0,lv0⟩⟩,?_⟩
 all_goals
  rintro m σ H1 ⟨acc,ys,q,ls,x,rfl,sm,hl1,al1,hq,nq,nd,lt,l24,few,lok,con,rfl,cs⟩
  refine⟨_,rfl,rfl,_,rfl,?_⟩
  rcases cs with ⟨rfl,c⟩ | ⟨pl,ne,it,lv⟩
  ·refine f9 rfl ?_
   have ly:=con [] (.nil c)
   rw [List.append_nil] at ly
   exact⟨_,rfl,k l ys acc H1 sm h00 hl1 al1 ly lok (by omega)⟩
  ·refine lz ne ?_
   refine⟨_,fun _ _ z=>z,?_⟩
   have sec:=tY it
   have hy:=al1.len
   have lyo:dH ws.length (pI ws ls pl):=CN sec l24 lt
   have rst:=tR (ws:=ws) nd sec
   have hp:=it.held
   refine⟨_,rfl,.inl ⟨rfl,_,bj.of hl1⟩,_,rfl,l,_,_,rfl,rfl,hl1,cF (by omega),?_⟩
   have t3:bn K H1 (upd H1 l (.lst (ys++[x]))):=bn.up hl1 _
   have sm3:aw H (upd H1 l (.lst (ys++[x]))):=fun b o e=>by rw [aJ (aV e h00)];exact sm _ _ e
   have hl3:upd H1 l (.lst (ys++[x])) l=some (.lst (ys++[x])):=af
   have al3:cL (gR K (upd H1 l (.lst (ys++[x])))) (ys++[x]) (acc++[pI ws ls pl]):=(al1.mono fun _ _ m=>m.mono t3).snoc (lv.mono t3)
   have lv3:=lv.mono t3
   have hq3:upd H1 l (.lst (ys++[x])) q=some (.lst (au ls)):=by rw [aJ nq];exact hq
   generalize upd H1 l (.lst (ys++[x]))=H3 at sm3 hl3 al3 lv3 hq3 ⊢
   obtain⟨pL,a,b,rfl,hpL,ha,hb⟩:=lv3
   have nl:(au ls).length=ls.length:=List.length_map _
   refine⟨_,rfl,q,rfl,⟨_,bj.of hq3⟩,fun D hD=>cH (jZ (bj.of hq3)) (fun i=>!(fw ls pl).contains (ls.getD i 0)) (fun i=>V.int (ls.getD i 0:Nat)) hD (by omega) (fun i x H' hi s' hx R E kR kE=>?_) fun H4 s4 h4=>?_⟩
   ·unfold au at hx
    rw [List.getElem?_map] at hx
    obtain⟨z,hz,rfl⟩:=Option.map_eq_some_iff.mp hx
    rw [aN 0 hz] at kR kE
    have t':=bn.same (K:=K) s'
    refine⟨ji.set rfl,_,rfl,_,rfl,pL,_,_,_,rfl,rfl,t' _ _ hpL,rfl,a,_,rfl,.inr (t' _ _ ha),rfl,qL _,_,rfl,?_⟩
    have e:sF (.int (z:Nat)) (au (pI ws ls pl).1)=(fw ls pl).contains z:=kb z (fw ls pl)
    cases cz:(fw ls pl).contains z with
    | true=>exact xH (by show (!sF (.int (z:Nat)) (au (pI ws ls pl).1))=false;rw [e,cz];rfl) (kE (by rw [cz];rfl) _ (aw.refl _))
    | false=>exact tW (by show (!sF (.int (z:Nat)) (au (pI ws ls pl).1))=true;rw [e,cz];rfl) ⟨_,rfl,kR (by rw [cz];rfl) _ (aw.refl _)⟩
   rw [nl,gO 0 (fun t=>!(fw ls pl).contains t) (fun t:Nat=>V.int t)] at h4
   replace h4:H4 D=some (.lst (au (dF ls pl))):=h4
   have nD:D≠l:=fun z=>by subst z;rw [hl3] at hD;cases hD
   have sm4:=sm3.trans s4
   have rl:(dF ls pl).length≤ls.length:=List.length_filter_le _ _
   have fin:∀ (x':V) (H5:Hp),aw H4 H5->((x'=.non/\lS ws (dF ls pl)=0)∨∃ pl',x'≠.non/\yD ws (dF ls pl) pl'/\gR K H5 x' (pI ws (dF ls pl) pl'))->∃ m',m' < lS ws ls/\∃ (acc:List (List Nat×List Nat)) (ys:List V) (q:Addr) (ls:List Nat) (x:V),[some (.ref p),some (.ref D),some (.ref l),some x']=[some (.ref p),some (.ref q),some (.ref l),some x]/\aw H H5/\H5 l=some (.lst ys)/\cL (gR K H5) ys acc/\H5 q=some (.lst (au ls))/\q≠l/\ls.Nodup/\(∀ t∈ls,t < 24)/\ls.length≤24/\acc.length+lS ws ls≤ws.length/\(∀ y∈acc,dH ws.length y)/\(∀ r,re ws ls r->re ws (List.range 24) (acc++r))/\m'=lS ws ls/\((x=.non/\lS ws ls=0)∨∃ pl,x≠.non/\yD ws ls pl/\gR K H5 x (pI ws ls pl)):=fun x' H5 s5 cs'=>by
    refine⟨lS ws (dF ls pl),by omega,acc++[pI ws ls pl],ys++[.ref pL],D,dF ls pl,x',rfl,sm4.trans s5,s5 _ _ (s4 _ _ hl3),al3.mono (fun _ _ m=>m.mono (bn.same (s4.trans s5))),s5 _ _ h4,nD,tJ nd pl,(fun t ht=>lt t (List.mem_filter.mp ht).1),by omega,(by rw [List.length_append];show acc.length+1+_≤_;omega),(fun y hy=>?_),(fun r hr=>?_),rfl,cs'⟩
    ·rcases List.mem_append.mp hy with h | h
     ·exact lok y h
     ·rw [List.mem_singleton.mp h];exact lyo
    ·have:=con _ (re.cons it hr)
     rw [List.append_assoc]
     exact this
   refine⟨_,rfl,_,rfl,.ref p,D,ws,dF ls pl,rfl,⟨p,xs,rfl,bn.same (K:=K) sm4 _ _ hS,al.mono fun _ _ m=>m.mono (bn.same sm4)⟩,hw,ok,bj.of h4,by omega,(fun H5 s5 z=>fin .non H5 s5 (.inl ⟨rfl,z⟩)),fun x' pl' H5 ne' s5 it' lv'=>fin x' H5 s5 (.inr ⟨pl',ne',it',lv'⟩)⟩
theorem xh (T:eR K mg t):bK P w K mg base d9 4 t.a_Q31 t.d_Q31 ["_law_works_here", "_law_layer"] (qb K):=by
 refine T.F_Q31.ok Bp (fun vs H Q E h=>?_) (fun cdv A outer s H vs Q E hr h=>?_)
 ·obtain⟨_,_,_,_,rfl,_⟩:=h;rfl
 obtain⟨v,x,ws,y,rfl,⟨p,xs,rfl,hS,al⟩,hw,ok,lv,lok,k⟩:=h
 refine dU.ok (ah (aC (dA (Cn T) hr T.m_Q35 T.F_Q35.kp T.b_Q35 (aa (dA (Cm T) hr T.m_Q36 T.F_Q36.kp T.b_Q36 (aa (bR (N':=["_law_number", "_law_works_here"]) (src:=[none,some 0]) rfl (by exact (cO (cj ay (qv 1) ae (fun _ _=>rfl)))) (fun _ _ _ _ _=>(by exact (by exact aG (i:=0) (by show List.Nodup (["_law_number", "_law_works_here"]:List Str);decide +kernel) (by exact rfl) (by first | exact Or.inl rfl | exact Or.inr rfl)))) (fun _ _ _ _ _=>cK) (fun _ _ _ _ _=>(by exact (by exact (cj (bG (K:=K) (by exact rfl)) (by exact (cj (bG (K:=K) (by exact rfl)) (by exact (qv 1)) (by exact (qv 0)) (by exact fun _ _=>rfl))) ae (by exact fun _ _=>rfl))))) (by exact⟨rfl,rfl,rfl,rfl,trivial⟩) rfl (by decide +kernel) rfl (by decide +kernel) (by exact bz rfl ⟨rfl,trivial⟩)) ad cM)) (aa (az (aa ae (aa (aj ar (by rfl) T.z_len boot_len (aa (cj ay (qv 1) ae (fun _ _=>rfl)) ad aD)) ad ao) ap)) ad aF) ao)))) ?_
 try dsimp only [Cx.nox,Cx.wish,bP]
 have hSl:=al.len
 obtain⟨pL,a,b,rfl,hpL,ha,hb⟩:=lv
 have nb:(au y.2).length=y.2.length:=List.length_map _
 have na:(au y.1).length=y.1.length:=List.length_map _
 have len:=lok.len
 refine⟨_,rfl,pL,_,_,_,rfl,rfl,hpL,rfl,b,rfl,⟨_,hb⟩,fun D hD=>fM (K:=K) (P:=RV K) (ds:=y.2) (f:=fun i=>(ws.getD i rg).2.2) (fun _ _ _ _ t p=>p.mono t) hD hb nb (by omega) (fun i x d H' hx hd s' R E kR=>?_) fun H2 ys2 s2 hD2 al2=>?_⟩
 ·have hx':(au y.2)[i]?=some (V.int (d:Nat)):=by unfold au;rw [List.getElem?_map,hd];rfl
  rw [hx] at hx'
  cases hx'
  have hdl:=lok.num d (List.mem_of_getElem? hd)
  obtain⟨xw,hxw⟩:∃ xw,xs[d]?=some xw:=⟨_,List.getElem?_eq_getElem (by omega)⟩
  obtain⟨w,hwd,pw,xa,rfl,hSw,rx⟩:=al.at hxw
  rw [aN rg hwd] at kR
  have t':=bn.same (K:=K) s'
  exact⟨ji.set rfl,_,rfl,_,rfl,p,_,_,_,rfl,rfl,t' _ _ hS,bv hxw,pw,_,_,_,rfl,rfl,t' _ _ hSw,rfl,kR _ _ (aw.refl _) (rx.mono t')⟩
 have wf:=ym (n:=ws.length) ok lok
 have la:(jE ws y).length=y.2.length:=List.length_map _
 refine⟨D,ys2,jE ws y,rfl,bj.of hD2,al2,wf,by omega,fun v' H3 s3 rv3=>?_⟩
 have t23:=bn.same (K:=K) (s2.trans s3)
 refine⟨_,rfl,pL,_,_,_,rfl,rfl,t23 _ _ hpL,rfl,a,_,rfl,.inr (t23 _ _ ha),dE,fun pt hpt=>?_⟩
 rw [na]
 have s4:=ak hpt (.tup [.int 1,.int (y.1.length:Int)])
 have pos:=lok.pos
 have few:=lok.few
 refine⟨v',.ref pt,ge (jE ws y),(1,(y.1.length:Int)),1+(4+1) * (jE ws y).length,5,rfl,rv3.mono (bn.same s4),RV.of af,tw wf,Cg pos few,by omega,fun u h5=>?_⟩
 exact k _ _ (((s2.trans s3).trans s4).trans (ak h5 _)) (RV.of af)
theorem AN (T:eR K mg t):bK P w K mg base d9 1 t.a_Q1 t.d_Q1 ["_law_thing", "_law_most"] (ic K):=by
 refine T.F_Q1.ok AD (fun vs H Q E h=>?_) (fun cdv A outer s H vs Q E hr h=>?_)
 ·obtain⟨_,_,_,rfl,_⟩:=h;rfl
 obtain⟨v,d,m,rfl,hD,m24,hl,k⟩:=h
 refine dU.ok (ag (bh (ee (bV (aj aR (by rfl) T.z_isinstance boot_isinstance (aa (qv 0) (aa (ba (v:=V.ty "tuple") rfl T.z_tuple boot_tuple rfl) ad ac) ac)))) (ah (aC cW)) aE)
   (ag (bZ PassesOwn.never rfl (cO (qv 0)) (aG (i:=2) AD.nd rfl (by first | exact Or.inl rfl | exact Or.inr rfl))
   (ah (bh (gi (im (ee (bV (aj aR (by rfl) T.z_isinstance boot_isinstance (aa (qv 2) (aa (ba (v:=V.ty "int") rfl T.z_int boot_int rfl) ad ac) ac)))) (im (bV (aj aR (by rfl) T.z_isinstance boot_isinstance (aa (qv 2) (aa (ba (v:=V.ty "bool") rfl T.z_bool boot_bool rfl) ad ac) ac))) (gj (ee (qo nz i0 ae (qv 2) (qv 1))))))) (ah (aC cW)) aE)))
   (ah (aC (cG (oV hr) (bc dQ (by rfl) T.z_list boot_list (aa (qv 0) ad ac)) (aj (fz (w:=w) rfl rfl) (by rfl) T.z_sorted boot_sorted (aa (bc (iP (w:=w) rfl rfl) (by rfl) T.z_set jD (aa (qv 0) ad ac)) ad ao)) (aK _)))))) ?_
 try dsimp only [Cx.nox,Cx.wish,bP]
 have bad:jI m d=false->∀ H',aw H H'->Q (.bl false) H':=fun e H' s'=>by
  have:=k H' s'
  rw [e] at this
  exact this
 rcases hU hD with ⟨e,pc,xs,ds,rfl,rfl,hS,hA⟩ | ⟨e,no⟩
 rotate_left
 ·refine⟨_,rfl,_,_,_,_,rfl,hD,e,_,rfl,cD ?_⟩
  exact bad (by cases d with | tuple ds=>exact absurd rfl (no _) | _=>rfl) _ (aw.refl _)
 refine⟨_,rfl,_,_,_,_,rfl,hD,e,_,rfl,bS ?_⟩
 have len:=hA.len
 have hl':ds.length≤60:=hl
 refine⟨_,rfl,pc,rfl,⟨_,hS⟩,fj (K:=K) (a:=pc) (xs:=xs) (fun i σ H'=>∃ (x2:Option V),σ=[some (.ref pc),some (.int (m:Nat)),x2]/\H'=H/\∀ j,j < i->fX m (ds.getD j .none)=true) ⟨none,rfl,rfl,fun j hj=>absurd hj (Nat.not_lt_zero _)⟩ (fun i σ H1 _ ⟨_,_,e,_⟩=>by rw [e];exact hS) ?_ ?_⟩
 ·rintro i x σ H1 hx ⟨x2,rfl,rfl,gd⟩
  have hil:i < ds.length:=by have:=(List.getElem?_eq_some_iff.mp hx).1;omega
  have hde:ds[i]?=some ds[i]:=List.getElem?_eq_getElem hil
  obtain⟨v,hv,dv'⟩:=aq.atN hA hde
  rw [hx] at hv
  cases hv
  have b0:fX m ds[i]=false->jI m (.tuple ds)=false:=fun h=>by
   show (ds.all (fX m) && _)=false
   rw [show ds.all (fX m)=false from List.all_eq_false.mpr ⟨ds[i],List.getElem_mem hil,by rw [h];exact Bool.false_ne_true⟩]
   rfl
  have nxt:fX m ds[i]=true->∀ j,j < i+1->fX m (ds.getD j .none)=true:=fun h j hj=>by
   by_cases z:j < i
   ·exact gd j z
   ·have:j=i:=by omega
    subst this
    rw [aN PyData.none hde];exact h
  generalize ds[i]=di at dv' b0 nxt
  obtain⟨b,c,e1,e2,e3⟩:=tX dv'
  refine⟨_,rfl,_,_,_,_,rfl,dv',e1,_,rfl,?_⟩
  cases b with
  | false=>
   have hw:iB di=false:=e3
   exact cD (cD (bad (b0 (by cases di with | int i=>cases hw | _=>rfl)) _ (aw.refl _)))
  | true=>
  refine bS ⟨_,rfl,_,_,_,_,rfl,dv',e2,_,rfl,?_⟩
  cases c with
  | true=>
   have hw:iB di=false:=e3
   exact cD (cD (bad (b0 (by cases di with | int i=>cases hw | _=>rfl)) _ (aw.refl _)))
  | false=>
  refine bS ?_
  have hw:iB di=true:=e3
  obtain⟨j,rfl⟩:=kh hw
  cases dv'
  have nd:fX m (.int j)=(decide (0≤j) && decide (j < m)):=rfl
  rw [nd] at b0 nxt
  refine⟨_,rfl,_,_,rfl,rfl,_,rfl,?_⟩
  by_cases c1:0≤j
  ·refine cv c1 ?_
   refine⟨_,rfl,_,_,rfl,rfl,_,rfl,?_⟩
   by_cases c2:j < m
   ·rw [decide_eq_true c1,decide_eq_true c2] at nxt
    exact f9 c2 ⟨_,rfl,rfl,nxt rfl⟩
   ·rw [decide_eq_true c1,decide_eq_false c2] at b0
    exact lz c2 (bad (b0 rfl) _ (aw.refl _))
  ·rw [decide_eq_false c1] at b0
   refine bO c1 ?_
   exact⟨_,rfl,cD (bad (b0 rfl) _ (aw.refl _))⟩
 rintro σ H1 ⟨x2,rfl,rfl,gd⟩
 have hn':ds.all (fX m)=true:=List.all_eq_true.mpr fun e he=>by
  obtain⟨j,hj,e'⟩:=List.mem_iff_getElem.mp he
  have:=gd j (by omega)
  rw [aN PyData.none (List.getElem?_eq_getElem hj),e'] at this
  exact this
 obtain⟨ls,rfl,lt⟩:=j7 hn'
 cases hZ hA
 have nl:(au ls).length=ls.length:=List.length_map _
 have l24:ls.length≤60:=by rw [List.length_map] at hl';exact hl'
 have rsE:jI m (.tuple (ls.map fun n:Nat=>PyData.int n))=oI ls:=by show (_ && oI _)=_;rw [hn',j8];rfl
 refine⟨_,rfl,pc,_,rfl,.inr hS,fun p2 h2=>?_⟩
 have s2:=ak h2 (.lst (au ls))
 have q2:upd H1 p2 (.lst (au ls)) p2=some (.lst (au ls)):=af
 generalize upd H1 p2 (.lst (au ls))=H2 at s2 q2 ⊢
 have en:au ls=(ls.map fun n:Nat=>(n:Int)).map V.int:=by unfold au;rw [List.map_map];rfl
 have le1:=fW (ls.map fun n:Nat=>(n:Int))
 rw [List.length_map] at le1
 refine⟨_,rfl,pc,_,rfl,.inr (by rw [← en];exact bn.same (K:=K) s2 _ _ hS),by rw [List.length_map];omega,fun p3 h3=>?_⟩
 refine⟨p3,_,rfl,af,by omega,fun p4 ms hpm hpw h4=>?_⟩
 obtain⟨zs,ez,zsrt,zmem⟩:=oW (fun n hn=>by have:=lt n hn;omega) hpm hpw
 have s34:=(ak h3 _).trans (ak h4 (.lst (ms.map V.int)))
 have q4:upd (upd H2 p3 (qk w p3 (b6 (ls.map fun n:Nat=>(n:Int))))) p4 (.lst (ms.map V.int)) p4=some (.lst (au zs)):=by rw [← ez];exact af
 refine⟨qu ls,qu zs,nM (bj.of (s34 _ _ q2)),nM (bj.of q4),(kU _).1,(kU _).1,(kU _).2,?_⟩
 rw [qQ]
 have rq:oI ls=decide (ls=zs):=by
  cases c:oI ls with
  | true=>exact (decide_eq_true (nj (kH.mp c) zsrt fun n=>(zmem n).symm)).symm
  | false=>exact (decide_eq_false fun z=>by rw [z,kH.mpr zsrt] at c;cases c).symm
 rw [← rq,← rsE]
 exact k _ (s2.trans s34)
theorem Cy (T:eR K mg t):bK P w K mg base d9 5 t.a_Q19 t.d_Q19 ["_law_works_here", "_law_thing"] (ow K):=by
 refine T.F_Q19.ok eD (fun vs H Q E h=>?_) (fun cdv A outer s H vs Q E hr h=>?_)
 ·obtain⟨_,_,_,_,rfl,_⟩:=h;rfl
 obtain⟨v,c,ws,d,rfl,a,k⟩:=h
 refine dU.ok (aY (bh (ee (bV (aj aR (by rfl) T.z_isinstance boot_isinstance (aa (qv 1) (aa (ba (v:=V.ty "tuple") rfl T.z_tuple boot_tuple rfl) ad ac) ac)))) (ah (aC (az (aa dC (aa (fH dJ ae) ad eW) ap)))) aE)
   (aY (bZ PassesOwn.never rfl (cO (qv 1)) (aG (i:=2) eD.nd rfl (by first | exact Or.inl rfl | exact Or.inr rfl))
   (ag (bh (gi (im (ee (bV (aj aR (by rfl) T.z_isinstance boot_isinstance (aa (qv 2) (aa (ba (v:=V.ty "tuple") rfl T.z_tuple boot_tuple rfl) ad ac) ac)))) (im (aH iu (aj ar (by rfl) T.z_len boot_len (aa (qv 2) ad ac)) ae (aK _)) (gj (aH (oV hr) (bX ay (qv 2) ae) (az ad) (aK _)))))) (ah (aC (az (aa dC (aa (fH dJ ae) ad eW) ap)))) aE)
   (ah (bh (gi (im (ee (bV (dA (AN T) hr T.m_Q1 T.F_Q1.kp T.b_Q1 (aa (bX ay (qv 2) ae) (aa ae ad ap) aD)))) (gj (ee (bV (dA (AN T) hr T.m_Q1 T.F_Q1.kp T.b_Q1 (aa (bX ay (qv 2) ae) (aa (aj ar (by rfl) T.z_len boot_len (aa (qv 0) ad ac)) ad ao) aD))))))) (ah (aC (az (aa dC (aa (fH dJ ae) ad eW) ap)))) aE))))
   (aY (bZ PassesOwn.never rfl (fc (bD (aa ae (aa ae ad ap) ap))) (aG (i:=3) eD.nd rfl (by first | exact Or.inl rfl | exact Or.inr rfl))
   (ah (bZ PassesOwn.never rfl (dj rfl T.z_range (aa (aj ar (by rfl) T.z_len boot_len (aa (qv 1) ad ac)) ad ao)) (aG (i:=4) eD.nd rfl (by first | exact Or.inl rfl | exact Or.inr rfl))
   (ag (cV 5 eD.nd (bD ad))
   (ag (bZ PassesOwn.never rfl (cO (bE cN (qv 1) bT (bM (qv 4)))) (aG (i:=2) eD.nd rfl (by first | exact Or.inl rfl | exact Or.inr rfl))
   (ah (dh (io PySem.F.plainAttrs_list PySem.F.slot_list_extend PySem.F.type_list_extend oY (qv 5) (aa (bX ay (qv 2) (qv 3)) ad aD)))))
   (ah (bh (aH iw (aj ar (by rfl) T.z_len boot_len (aa (bR (N':=["_law_one_here", "_law_ahead"]) (src:=[none,some 5]) rfl (by exact (cO (bX ay (bX ay (qv 1) (qv 4)) (qv 3)))) (fun _ _ _ _ _=>(by exact (by exact aG (i:=0) (by show List.Nodup (["_law_one_here", "_law_ahead"]:List Str);decide +kernel) (by exact rfl) (by first | exact Or.inl rfl | exact Or.inr rfl)))) (fun _ _ _ _ _=>(gX (aH (sg (K:=K) (by exact rfl)) (by exact (qv 0)) (by exact (qv 1)) (by with_unfolding_all rfl)))) (fun _ _ _ _ _=>(by exact (by exact (qv 0)))) (by exact⟨rfl,rfl,rfl,rfl,trivial⟩) rfl (by decide +kernel) rfl (by decide +kernel) (by exact bz rfl ⟨rfl,trivial⟩)) ad cM)) ae (aK _)) (ah (aC (az (aa (bX bH (bD (aa dC (aa dC ad ap) ap)) (qv 3)) (aa (qv 4) ad ac) aD)))) aE)))))))
   (aY (bh (aH i0 (aj (jC rfl) (by rfl) T.z_sum boot_sum (aa (bR (N':=["_law_pair"]) (src:=[none]) rfl (by exact (cO (qv 1))) (fun _ _ _ _ _=>(by exact (by exact aG (i:=0) (by show List.Nodup (["_law_pair"]:List Str);decide +kernel) (by exact rfl) (by first | exact Or.inl rfl | exact Or.inr rfl)))) (fun _ _ _ _ _=>cK) (fun _ _ _ _ _=>(by exact (by exact (aj (nO (K:=K) (by exact rfl)) (by exact rfl) T.z_len boot_len (aa (by exact (cj (bG (K:=K) (by exact rfl)) (by exact (qv 0)) ae (by exact fun _ _=>rfl))) ad aD))))) (by exact trivial) rfl (by decide +kernel) rfl (by decide +kernel) (by exact bz rfl trivial)) ad cM)) (aj ar (by rfl) T.z_len boot_len (aa (qv 0) ad ac)) (aK _)) (ah (aC (az (aa dC (aa (fH dJ ae) ad eW) ap)))) aE)
   (ag (cV 6 eD.nd (bD ad))
   (aY (bZ PassesOwn.never rfl (dj rfl T.z_range (aa (aj ar (by rfl) T.z_len boot_len (aa (qv 1) ad ac)) ad ao)) (aG (i:=4) eD.nd rfl (by first | exact Or.inl rfl | exact Or.inr rfl))
   (ag (cV 6 eD.nd (aB fV (qv 6) (bc dQ (by rfl) T.z_list boot_list (aa (bX ay (bX ay (qv 1) (qv 4)) ae) ad aD))))
   (ah (bZ PassesOwn.never rfl (cO (bX ay (bX ay (qv 1) (qv 4)) ae)) (aG (i:=7) eD.nd rfl (by first | exact Or.inl rfl | exact Or.inr rfl))
   (ah (bh (aH iw (aj ar (by rfl) T.z_len boot_len (aa (bR (N':=["_law_turn", "_law_met"]) (src:=[none,some 6]) rfl (by exact (ej rfl T.z_range (aa (bX ay (bX ay (qv 0) (qv 7)) ae) (aa (aB cI (bX ay (bX ay (qv 0) (qv 7)) ae) ae) ad aX) aD))) (fun _ _ _ _ _=>(by exact (by exact aG (i:=0) (by show List.Nodup (["_law_turn", "_law_met"]:List Str);decide +kernel) (by exact rfl) (by first | exact Or.inl rfl | exact Or.inr rfl)))) (fun _ _ _ _ _=>(gX (aH (fq (K:=K) (by exact rfl)) (by exact (qv 0)) (by exact (qv 1)) (by with_unfolding_all rfl)))) (fun _ _ _ _ _=>(by exact (by exact (qv 0)))) (by exact⟨rfl,rfl,rfl,rfl,trivial⟩) rfl (by decide +kernel) rfl (by decide +kernel) (by exact bz rfl ⟨rfl,trivial⟩)) ad cM)) ae (aK _)) (ah (aC (az (aa dC (aa (qv 4) ad ac) ap)))) aE))))))
   (ag (bZ PassesOwn.never rfl (ej rfl T.z_range (aa ae (aa (aj ar (by rfl) T.z_len boot_len (aa (qv 1) ad ac)) ad ao) ap)) (aG (i:=4) eD.nd rfl (by first | exact Or.inl rfl | exact Or.inr rfl))
   (ah (bh (bV (dA (Cq T) hr T.m_Q30 T.F_Q30.kp T.b_Q30 (aa (dA (xh T) hr T.m_Q31 T.F_Q31.kp T.b_Q31 (aa (qv 0) (aa (bX ay (qv 1) (aB fS (qv 4) ae)) ad aD) ac)) (aa (dA (xh T) hr T.m_Q31 T.F_Q31.kp T.b_Q31 (aa (qv 0) (aa (bX ay (qv 1) (qv 4)) ad aD) ac)) ad ao) ao))) (ah (aC (az (aa dC (aa (qv 4) ad ac) ap)))) aE)))
   (ah (aC dM))))))))) ?_
 try dsimp only [Cx.nox,Cx.wish,bP]
 obtain⟨pw,xw,rfl,hW,alW⟩:=id a.wv
 have lw:=alW.len
 have w9:=a.w9
 have hD:=a.dp
 have shp:oQ ws.length d=false->∀ {H1:Hp},aw H H1->∀ pz,H1 pz=none->Q (.ref pz) (upd H1 pz (.tup [.str (Str.ofString "shape"),.int (-1)])):=fun e H1 s1 pz hz=>k _ _ (s1.trans (ak hz _)) (by rw [mf e];exact⟨pz,rfl,aZ.of af⟩)
 intro R0 k0
 rcases hU hD with ⟨e,pc,xs,ds,rfl,rfl,hS,hA⟩ | ⟨e,no⟩
 rotate_left
 ·refine⟨_,rfl,_,_,_,_,rfl,hD,e,_,rfl,cD ?_⟩
  exact⟨_,rfl,dE,fun pz hz=>shp (by cases d with | tuple ds=>exact absurd rfl (no _) | _=>rfl) (aw.refl _) pz hz⟩
 refine⟨_,rfl,_,_,_,_,rfl,hD,e,_,rfl,bS ?_⟩
 refine k0 _ _ ?_
 intro R1 k1
 have len:=hA.len
 have wd1:ds.length≤30:=a.wd.1
 have wd2:∀ e∈ds,∀ f∈jz e,(jz f).length≤60:=a.wd.2
 have bad:∀ (i:Nat) (hi:i < ds.length),gG ws.length ds[i]=false->oQ ws.length (.tuple ds)=false:=fun i hi h=>List.all_eq_false.mpr ⟨ds[i],List.getElem_mem hi,by rw [h];exact Bool.false_ne_true⟩
 refine⟨_,rfl,pc,rfl,⟨_,hS⟩,fj (K:=K) (a:=pc) (xs:=xs) (fun i σ H'=>∃ (x2:Option V),σ=[some (.ref pw),some (.ref pc),x2,none,none,none,none,none]/\aw H H'/\∀ m,m < i->gG ws.length (ds.getD m .none)=true) ⟨none,rfl,aw.refl H,fun m hm=>absurd hm (Nat.not_lt_zero _)⟩ (fun i σ H1 _ ⟨_,_,sm,_⟩=>bn.same sm _ _ hS) ?_ ?_⟩
 ·rintro i x σ H1 hx ⟨x2,rfl,s1,gd⟩
  have hil:i < ds.length:=by have:=(List.getElem?_eq_some_iff.mp hx).1;omega
  have hde:ds[i]?=some ds[i]:=List.getElem?_eq_getElem hil
  obtain⟨w,hw,dv0⟩:=aq.atN hA hde
  rw [hx] at hw
  cases hw
  have mm:ds[i]∈ds:=List.getElem_mem hil
  have dv:=dv0.same s1
  have bd:=bad i hil
  have wd:=wd2 _ mm
  have ly:=o6 a.gd.lay _ mm
  have dp:=pA a.gd.sh.dp _ mm
  have nxt:gG ws.length ds[i]=true->∀ m,m < i+1->gG ws.length (ds.getD m .none)=true:=fun h m hm=>by
   by_cases z:m < i
   ·exact gd m z
   ·have:m=i:=by omega
    subst this
    rw [aN PyData.none hde];exact h
  generalize ds[i]=di at dv bd wd ly dp nxt
  rcases hU dv with ⟨e,p,ys,dd,rfl,rfl,hS1,hA1⟩ | ⟨e,no⟩
  rotate_left
  ·refine⟨_,rfl,_,_,_,_,rfl,dv,e,_,rfl,cD (cD ?_)⟩
   exact⟨_,rfl,dE,fun pz hz=>shp (bd (by cases di with | tuple ds=>exact absurd rfl (no _) | _=>rfl)) s1 pz hz⟩
  refine⟨_,rfl,_,_,_,_,rfl,dv,e,_,rfl,bS ?_⟩
  have hl:=hA1.len
  refine⟨_,rfl,p,_,rfl,.inr hS1,rfl,_,rfl,?_⟩
  by_cases c2:dd.length=2
  rotate_left
  ·refine lz (fun z=>c2 (by injection z with z;omega)) (cD ?_)
   exact⟨_,rfl,dE,fun pz hz=>shp (bd (AQ (show decide (dd.length=2)=false from decide_eq_false c2))) s1 pz hz⟩
  refine f9 (by rw [hl,c2];rfl) ?_
  obtain⟨q,x,y,dx,dy,e1,e2,hS',hx_,hy_⟩:=dv.two (show decide (dd.length=2)=true from decide_eq_true c2)
  cases e1
  cases e2
  have wx:=wd dx (by show dx∈[dx,dy];simp)
  have wy:=wd dy (by show dy∈[dx,dy];simp)
  refine⟨_,rfl,p,_,_,_,rfl,rfl,hS',rfl,(by show 0≤sizeLine;exact Nat.zero_le _),fun pe he=>?_⟩
  have se:=ak he (.tup [])
  have qe:aZ K (upd H1 pe (.tup [])) pe []:=aZ.of af
  generalize upd H1 pe (.tup [])=H2 at se qe ⊢
  have s2:=s1.trans se
  have t2:=bn.same (K:=K) se
  refine⟨dx,.tuple [],hx_.same se,.tup qe .nil,o6 ly dx (by simp),rfl,Nat.le_trans (pA dp dx (by simp)) (by decide),_,rfl,?_⟩
  rw [z7]
  cases cn:xr dx with
  | true=>
   refine cD ?_
   exact⟨_,rfl,dE,fun pz hz=>shp (bd (zK cn)) s2 pz hz⟩
  | false=>
  refine bS ?_
  refine⟨_,rfl,p,_,_,_,rfl,rfl,t2 _ _ hS',rfl,x,dx,24,rfl,hx_.same se,by decide,wx,fun H3 s3'=>⟨_,rfl,?_⟩⟩
  have s3:=s2.trans s3'
  have t3:=t2.trans (bn.same (K:=K) s3')
  cases cx:jI 24 dx with
  | false=>
   refine cD (cD ?_)
   exact⟨_,rfl,dE,fun pz hz=>shp (bd (by show (jI 24 dx && _)=false;rw [cx];rfl)) s3 pz hz⟩
  | true=>
  refine bS ?_
  refine⟨_,rfl,p,_,_,_,rfl,rfl,t3 _ _ hS',rfl,_,rfl,pw,_,rfl,.inr (bn.same (K:=K) s3 _ _ hW),y,dy,xw.length,rfl,hy_.same (se.trans s3'),by omega,wy,fun H4 s4'=>⟨_,rfl,?_⟩⟩
  have s4:=s3.trans s4'
  rw [lw]
  cases cy:jI ws.length dy with
  | false=>
   refine cD ?_
   exact⟨_,rfl,dE,fun pz hz=>shp (bd (by show (jI 24 dx && (_ && jI ws.length dy))=false;rw [cy,Bool.and_false,Bool.and_false])) s4 pz hz⟩
  | true=>
  refine bS ⟨_,rfl,s4,nxt ?_⟩
  show (jI 24 dx && (decide (0 < (jz dx).length) && jI ws.length dy))=true
  rw [cx,cy,decide_eq_true (zJ cn cx)]
  rfl
 rintro σ H1 ⟨x2,rfl,s1,gd⟩
 refine k1 _ _ ?_
 intro R2 k2
 have cs:oQ ws.length (.tuple ds)=true:=List.all_eq_true.mpr fun e he=>by
  obtain⟨j,hj,e'⟩:=List.mem_iff_getElem.mp he
  have:=gd j (by omega)
  rw [aN PyData.none (List.getElem?_eq_getElem hj),e'] at this
  exact this
 clear bad shp gd
 obtain⟨al,_,rs⟩:=o5 hA cs
 have vm:jS ws (.tuple ds)=ij ws (ir (.tuple ds)):=by unfold jS;rw [cs];rfl
 rw [vm] at k
 have pl':(ds.map kY).length=ds.length:=List.length_map _
 replace k:∀ (u:V) (H':Hp),aw H H'->E5 K H' u (ij ws (ds.map kY))->Q u H':=k
 generalize ds.map kY=p at al rs pl' k
 have lp:p.length≤30:=by omega
 have lxp:xs.length=p.length:=al.len
 have ret:∀ {z:Str} {n:Int},ij ws p=some (z,n)->∀ {H1:Hp},aw H H1->∀ pz,H1 pz=none->Q (.ref pz) (upd H1 pz (.tup [.str z,.int n])):=fun e H1 s1 pz hz=>k _ _ (s1.trans (ak hz _)) (by rw [e];exact⟨pz,rfl,aZ.of af⟩)
 refine⟨dE,fun lw_ hlw=>?_⟩
 have sw:=ak hlw (.lst [.int 0,.int 1])
 have qw:upd H1 lw_ (.lst [.int 0,.int 1]) lw_=some (.lst [.int 0,.int 1]):=af
 generalize upd H1 lw_ (.lst [.int 0,.int 1])=HW at sw qw ⊢
 have s1w:=s1.trans sw
 refine⟨lw_,rfl,⟨_,bj.of qw⟩,gI (K:=K) (a:=lw_) (xs:=[V.int 0,V.int 1]) (fun i σ H'=>∃ (x2 x3 x4 x5:Option V),σ=[some (.ref pw),some (.ref pc),x2,x3,x4,x5,none,none]/\aw HW H'/\∀ m,m < i->dS (p.map (cC m))=none) ⟨_,_,_,_,rfl,aw.refl _,fun m hm=>absurd hm (Nat.not_lt_zero _)⟩ (fun i σ H1 _ ⟨_,_,_,_,_,sm,_⟩=>bj.of (sm _ _ qw)) ?_ ?_⟩
 ·rintro kk x σ H2 hx ⟨x2,x3,x4,x5,rfl,s2,g2⟩
  have hk:kk < 2:=(List.getElem?_eq_some_iff.mp hx).1
  have ex:x=.int (kk:Nat):=by
   rcases (show kk=0∨kk=1 by omega) with rfl | rfl
   ·cases hx;rfl
   ·cases hx;rfl
  subst ex
  have sH2:=s1w.trans s2
  refine⟨_,rfl,pc,_,rfl,.inr (bn.same (K:=K) sH2 _ _ hS),_,rfl,by omega,by omega,dk (lo:=0) (n:=(xs.length:Int).toNat) (fun i σ H'=>∃ (x2 x4 x5:Option V),σ=[some (.ref pw),some (.ref pc),x2,some (.int (kk:Nat)),x4,x5,none,none]/\aw HW H'/\∀ m,m < i->(((p.map (cC kk)).getD m []).any fun x=>(((p.map (cC kk)).take m).flatten).contains x)=false) ⟨_,_,_,rfl,s2,fun m hm=>absurd hm (Nat.not_lt_zero _)⟩ ?_ ?_⟩
  ·rintro i σ H3 hi ⟨x2,x4,x5,rfl,s3,g3⟩
   rw [Int.zero_add]
   have hil:i < p.length:=by omega
   have sH3:=s1w.trans s3
   refine⟨(by show 0≤sizeLine;exact Nat.zero_le _),fun la hla=>?_⟩
   have s4:=ak hla (.lst [])
   have q4:upd H3 la (.lst []) la=some (.lst []):=af
   generalize upd H3 la (.lst [])=H4 at s4 q4 ⊢
   have sH4:=sH3.trans s4
   refine⟨_,rfl,_,rfl,_,rfl,pc,_,rfl,bn.same (K:=K) sH4 _ _ hS,fun ps H5 s5 sc=>?_⟩
   rw [eh (n:=i)] at sc
   have alt:=al.take i
   have lat:=alt.len
   have s35:=s4.trans s5
   have sH5:=sH3.trans s35
   refine⟨ps,rfl,⟨_,sc⟩,fj (K:=K) (a:=ps) (xs:=xs.take i) (fun j σ H'=>∃ (x2:Option V),σ=[some (.ref pw),some (.ref pc),x2,some (.int (kk:Nat)),some (.int (i:Nat)),some (.ref la),none,none]/\aw H3 H'/\aZ K H' ps (xs.take i)/\H' la=some (.lst (au (((p.take i).take j).flatMap (cC kk))))) ⟨_,rfl,s35,sc,s5 _ _ q4⟩ (fun j σ H1 _ ⟨_,_,_,q,_⟩=>q) ?_ ?_⟩
   ·rintro j x σ H6 hx ⟨x2,rfl,s6,sc6,q6⟩
    obtain⟨y,hy,ly⟩:=alt.at hx
    have sH6:=sH3.trans s6
    obtain⟨pL,a_,b_,q,rfl,hpL,hat,hq⟩:=v6 hk (ly.mono (bn.same sH6))
    have tk:(p.take i).take (j+1)=(p.take i).take j++[y]:=by rw [List.take_add_one,hy];rfl
    have z1:([y].flatMap (cC kk))=cC kk y:=by simp
    have bl:∀ (l:List Ly),(∀ y∈l,y∈p)->(l.flatMap (cC kk)).length≤24 * l.length:=fun l hl=>by
     induction l with
     | nil=>exact Nat.zero_le _
     | cons z r ih=>
      rw [List.flatMap_cons,List.length_append,List.length_cons]
      have:=ih fun y hy=>hl y (List.mem_cons_of_mem _ hy)
      have rz:=rs z (hl z List.mem_cons_self)
      have f1:=rz.f1
      have f2:=rz.f2
      have:(cC kk z).length≤24:=by unfold cC;split <;> omega
      omega
    have my:y∈p:=List.mem_of_mem_take (List.mem_of_getElem? hy)
    have bt:=bl ((p.take i).take j++[y]) (fun z hz=>by
     rcases List.mem_append.mp hz with h | h
     ·exact List.mem_of_mem_take (List.mem_of_mem_take h)
     ·rw [List.mem_singleton.mp h];exact my)
    rw [List.flatMap_append,List.length_append,z1,List.length_append] at bt
    have lj:((p.take i).take j).length≤30:=by rw [List.length_take,List.length_take];omega
    have b1:[y].length=1:=rfl
    refine⟨_,rfl,.inl ⟨rfl,_,bj.of q6⟩,_,rfl,_,rfl,pL,_,_,_,rfl,rfl,hpL,hat,la,q,_,_,rfl,rfl,q6,hq,by unfold au;rw [List.length_map,List.length_map];omega,?_⟩
    rw [eI]
    have tu:=bn.up (K:=K) q6 (au (((p.take i).take j).flatMap (cC kk)++cC kk y))
    refine⟨_,rfl,fun b o e=>?_,tu _ _ sc6,?_⟩
    ·rw [aJ (aV e hla)];exact s6 _ _ e
    ·rw [af,tk,List.flatMap_append,z1]
   rintro σ H6 ⟨x2,rfl,s6,sc6,q6⟩
   have eti:(p.take i).take (xs.take i).length=p.take i:=by rw [lat,List.take_length]
   rw [eti] at q6
   have sH6:=sH3.trans s6
   have t6:=bn.same (K:=K) sH6
   obtain⟨xi,hxi⟩:∃ x,xs[i]?=some x:=⟨_,List.getElem?_eq_getElem (by omega)⟩
   obtain⟨y,hy,ly⟩:=al.at hxi
   obtain⟨pL,a_,b_,q,rfl,hpL,hat,hq⟩:=v6 hk (ly.mono t6)
   have gy:(p.map (cC kk)).getD i []=cC kk y:=aN [] (by rw [List.getElem?_map,hy];rfl)
   have ny:(au (cC kk y)).length=(cC kk y).length:=List.length_map _
   have ry:=rs y (List.mem_of_getElem? hy)
   have f1:=ry.f1
   have f2:=ry.f2
   have fy:(cC kk y).length≤24:=by unfold cC;split <;> omega
   refine⟨_,rfl,_,rfl,pc,_,_,_,rfl,rfl,t6 _ _ hS,bv hxi,_,rfl,pL,_,_,_,rfl,rfl,hpL,hat,q,rfl,⟨_,hq⟩,fun D hD=>cH (fR hq) (fun j=>((p.take i).flatMap (cC kk)).contains ((cC kk y).getD j 0)) (fun j=>V.int ((cC kk y).getD j 0:Nat)) hD (by omega) (fun j x H' hj s' hx R E kR kE=>?_) fun H7 s7 h7=>?_⟩
   ·have hjl:j < (cC kk y).length:=by omega
    have b1:(au (cC kk y))[j]?=some (V.int ((cC kk y)[j]:Nat)):=by unfold au;rw [List.getElem?_map,List.getElem?_eq_getElem hjl];rfl
    rw [hx] at b1
    cases b1
    simp only [aN 0 (List.getElem?_eq_getElem hjl)] at kR kE
    refine⟨ji.set rfl,_,rfl,_,rfl,la,_,rfl,.inl (bj.of (s' _ _ q6)),rfl,(by unfold au;rw [List.all_map];exact List.all_eq_true.mpr fun _ _=>rfl),⟨_,rfl,?_⟩⟩
    rw [show sF (V.int ((cC kk y)[j]:Nat)) (au ((p.take i).flatMap (cC kk)))=((p.take i).flatMap (cC kk)).contains (cC kk y)[j] from kb _ _]
    cases cc:((p.take i).flatMap (cC kk)).contains (cC kk y)[j] with
    | true=>exact cD ⟨_,rfl,kR cc _ (aw.refl _)⟩
    | false=>exact bS (kE cc _ (aw.refl _))
   have nn:((cC kk y).any fun x=>(((p.map (cC kk)).take i).flatten).contains x)=false↔((List.range (au (cC kk y)).length).filter fun j=>((p.take i).flatMap (cC kk)).contains ((cC kk y).getD j 0))=[]:=by
    rw [lV,ny,← qX (cC kk y) (fun x=>((p.take i).flatMap (cC kk)).contains x),List.any_eq_false,List.filter_eq_nil_iff]
   refine⟨D,_,rfl,.inl (bj.of h7),_,_,rfl,rfl,_,rfl,?_⟩
   rw [List.length_map]
   have sH7:=sH6.trans s7
   cases ca:((cC kk y).any fun x=>(((p.map (cC kk)).take i).flatten).contains x) with
   | true=>
    refine cv ?_ ?_
    ·have:((List.range (au (cC kk y)).length).filter fun j=>((p.take i).flatMap (cC kk)).contains ((cC kk y).getD j 0))≠[]:=fun z=>by rw [nn.mpr z] at ca;cases ca
     have:=List.length_pos_iff.mpr this
     omega
    have fnd:dS (p.map (cC kk))=some i:=hX (by rw [List.length_map];exact hil) (by rw [gy];exact ca) g3
    refine⟨dE,fun l8 h8=>?_⟩
    have s8:=sH7.trans (ak h8 (.lst [.str (Str.ofString "turn"),.str (Str.ofString "work")]))
    have q8:=af (H:=H7) (a:=l8) (o:=.lst [.str (Str.ofString "turn"),.str (Str.ofString "work")])
    generalize upd H7 l8 (.lst [.str (Str.ofString "turn"),.str (Str.ofString "work")])=H8 at s8 q8 ⊢
    rcases (show kk=0∨kk=1 by omega) with rfl | rfl
    ·have f0:dS (p.map fun y:Ly=>y.1)=some i:=fnd
     refine⟨_,rfl,l8,_,_,_,rfl,rfl,bj.of q8,rfl,_,rfl,dE,fun pz hz=>ret ?_ s8 pz hz⟩
     unfold ij gl
     rw [f0]
    ·have f0:dS (p.map fun y:Ly=>y.2)=some i:=fnd
     have f00:dS (p.map fun y:Ly=>y.1)=none:=g2 0 (by decide)
     refine⟨_,rfl,l8,_,_,_,rfl,rfl,bj.of q8,rfl,_,rfl,dE,fun pz hz=>ret ?_ s8 pz hz⟩
     unfold ij gl
     rw [f00,f0]
   | false=>
    rw [nn.mp ca]
    refine bO (by decide) ⟨_,_,_,rfl,(s3.trans s6).trans s7,fun m hm=>?_⟩
    by_cases z:m < i
    ·exact g3 m z
    ·have:m=i:=by omega
     subst this
     rw [gy]
     exact ca
  ·rintro σ H3 ⟨x2,x4,x5,rfl,s3,g3⟩
   refine⟨_,_,_,_,rfl,s3,fun m hm=>?_⟩
   by_cases z:m < kk
   ·exact g2 m z
   ·have:m=kk:=by omega
    subst this
    exact hV fun j hj=>g3 j (by rw [List.length_map] at hj;omega)
 rintro σ H2 ⟨x2,x3,x4,x5,rfl,s2,g2⟩
 refine k2 _ _ ?_
 intro R3 k3
 have a1:dS (p.map fun y:Ly=>y.1)=none:=g2 0 (by show 0 < 2;decide)
 have a2:dS (p.map fun y:Ly=>y.2)=none:=g2 1 (by show 1 < 2;decide)
 have sH2:=s1w.trans s2
 have t2:=bn.same (K:=K) sH2
 have hS4:=t2 _ _ hS
 have al4:=al.mono fun _ _ q=>q.mono t2
 refine⟨_,rfl,pc,rfl,⟨_,hS4⟩,fun D5 hD5=>cH (fR hS4) (fun _=>true) (fun i=>V.int ((p.getD i ([],[])).2.length:Int)) hD5 (by omega) (fun i x H' hi s' hx R E kR kE=>?_) fun H5 s5 h5=>?_⟩
 ·obtain⟨y,hy,pL,a_,b_,rfl,hpL,ha,hb⟩:=al4.at hx
  rw [aN (([],[]):Ly) hy] at kR
  have t':=bn.same (K:=K) s'
  have nb:(au y.2).length=y.2.length:=List.length_map _
  rw [← nb] at kR
  exact⟨ji.set rfl,_,rfl,pL,_,_,_,rfl,rfl,t' _ _ hpL,rfl,b_,_,rfl,.inr (t' _ _ hb),kR rfl _ (aw.refl _)⟩
 have e5:(((List.range xs.length).filter fun _=>true).map fun i=>V.int ((p.getD i ([],[])).2.length:Int))=(p.map fun y=>(y.2.length:Int)).map V.int:=by
  rw [List.filter_eq_self.mpr (fun _ _=>rfl),lxp,List.map_map]
  refine List.ext_getElem (by simp) fun i h1 h2=>?_
  have hi:i < p.length:=by simpa using h2
  simp [List.getD_eq_getElem?_getD,hi]
 rw [e5] at h5
 have sH5:=sH2.trans s5
 have t5:=bn.same (K:=K) sH5
 refine⟨D5,_,rfl,bj.of h5,_,rfl,pw,_,rfl,.inr (t5 _ _ hW),_,_,rfl,rfl,_,rfl,?_⟩
 rw [lw]
 by_cases c3:(p.map fun y=>(y.2.length:Int)).sum < (ws.length:Int)
 ·refine cv c3 ?_
  exact⟨_,rfl,dE,fun pz hz=>ret (by unfold ij gl qD;rw [a1,a2,decide_eq_true c3];rfl) sH5 pz hz⟩
 refine bO c3 ?_
 refine k3 _ _ ?_
 have on:gl ws p=none:=by unfold gl qD;rw [a1,a2,decide_eq_false c3];rfl
 clear h5 g2
 refine⟨(by show 0≤sizeLine;exact Nat.zero_le _),fun lm0 hm0=>?_⟩
 have s6:=sH5.trans (ak hm0 (.lst []))
 have q6:upd H5 lm0 (.lst []) lm0=some (.lst (au (bC (p.take 0)))):=af
 generalize upd H5 lm0 (.lst [])=H6 at s6 q6 ⊢
 intro R4 k4
 refine⟨_,rfl,pc,_,rfl,.inr (bn.same (K:=K) s6 _ _ hS),_,rfl,by omega,by omega,dk (lo:=0) (n:=(xs.length:Int).toNat) (fun i σ H'=>∃ (x4 x7:Option V) (lm:Addr),σ=[some (.ref pw),some (.ref pc),x2,x3,x4,x5,some (.ref lm),x7]/\aw H H'/\H' lm=some (.lst (au (bC (p.take i))))/\(bC (p.take i)).length≤24 * i/\∀ m,m < i->pE ws p m=false) ⟨_,_,lm0,rfl,s6,q6,Nat.zero_le _,fun m hm=>absurd hm (Nat.not_lt_zero _)⟩ ?_ ?_⟩
 ·rintro i σ H7 hi ⟨x4,x7,lm,rfl,s7,q7,l24,g7⟩
  rw [Int.zero_add]
  have hil:i < p.length:=by omega
  have t7:=bn.same (K:=K) s7
  obtain⟨xi,hxi⟩:∃ x,xs[i]?=some x:=⟨_,List.getElem?_eq_getElem (by omega)⟩
  obtain⟨y,hy,pL,a_,b_,rfl,hpL,ha,hb⟩:=al.at hxi
  have ry:=rs y (List.mem_of_getElem? hy)
  have f1:=ry.f1
  have gy:p.getD i ([],[])=y:=aN _ hy
  have n1:(au y.1).length=y.1.length:=List.length_map _
  have n2:(au y.2).length=y.2.length:=List.length_map _
  have ft:bC (p.take (i+1))=bC (p.take i)++y.1:=by unfold bC;rw [List.take_add_one,hy,List.flatMap_append];simp
  refine⟨_,rfl,_,rfl,_,rfl,pc,_,_,_,rfl,rfl,t7 _ _ hS,bv hxi,pL,_,_,_,rfl,rfl,t7 _ _ hpL,rfl,a_,_,rfl,.inr (t7 _ _ ha),fun l8 h8=>?_⟩
  have e8:=ak h8 (.lst (au y.1))
  have q8:upd H7 l8 (.lst (au y.1)) l8=some (.lst (au y.1)):=af
  have q78:=e8 _ _ q7
  generalize upd H7 l8 (.lst (au y.1))=H8 at e8 q8 q78 ⊢
  refine⟨lm,l8,_,_,rfl,rfl,q78,q8,Nat.le_trans (show _≤1000 by unfold au;rw [List.length_map,List.length_map];omega) dI,fun l9 h9=>?_⟩
  rw [eI,← ft]
  have e9:=ak h9 (.lst (au (bC (p.take (i+1)))))
  have q9:upd H8 l9 (.lst (au (bC (p.take (i+1))))) l9=some (.lst (au (bC (p.take (i+1))))):=af
  generalize upd H8 l9 (.lst (au (bC (p.take (i+1)))))=H9 at e9 q9 ⊢
  have s9:=(s7.trans e8).trans e9
  have t9:=bn.same (K:=K) s9
  refine⟨_,rfl,_,rfl,pc,_,_,_,rfl,rfl,t9 _ _ hS,bv hxi,pL,_,_,_,rfl,rfl,t9 _ _ hpL,rfl,b_,rfl,⟨_,t9 _ _ hb⟩,fj (K:=K) (a:=b_) (xs:=au y.2) (fun j σ H'=>∃ (x7:Option V),σ=[some (.ref pw),some (.ref pc),x2,x3,some (.int (i:Nat)),x5,some (.ref l9),x7]/\aw H9 H'/\∀ m,m < j->i4 (bC (p.take (i+1))) (ws.getD (y.2.getD m 0) rg)=true) ⟨_,rfl,aw.refl _,fun m hm=>absurd hm (Nat.not_lt_zero _)⟩ (fun j σ H1 _ ⟨_,_,sm,_⟩=>bn.same (K:=K) sm _ _ (t9 _ _ hb)) ?_ ?_⟩
  ·rintro j x σ HA hx ⟨x7,rfl,sA,gA⟩
   have hjl:j < y.2.length:=by have:=(List.getElem?_eq_some_iff.mp hx).1;omega
   have b1:(au y.2)[j]?=some (V.int (y.2[j]:Nat)):=by unfold au;rw [List.getElem?_map,List.getElem?_eq_getElem hjl];rfl
   rw [hx] at b1
   cases b1
   have hnl:=ry.l2 _ (List.getElem_mem hjl)
   have hnx:y.2[j] < xw.length:=by rw [lw];exact hnl
   obtain⟨xv,hxv⟩:∃ xv,xw[y.2[j]]?=some xv:=⟨xw[y.2[j]],List.getElem?_eq_getElem hnx⟩
   obtain⟨w_,hwd,pW,xa,rfl,hSw,rx⟩:=alW.at hxv
   have o:=a.ok w_ (List.mem_of_getElem? hwd)
   have ole:=o.le
   have olt:=o.lt
   have sHA:=s9.trans sA
   have tA:=bn.same (K:=K) sHA
   have qA:=sA _ _ q9
   have e1:(((w_.2.1:Nat):Int)+1 - ((w_.1:Nat):Int)).toNat=w_.2.1+1 - w_.1:=by omega
   refine⟨_,rfl,_,rfl,pw,_,_,_,rfl,rfl,tA _ _ hW,bv hxv,pW,_,_,_,rfl,rfl,tA _ _ hSw,rfl,_,rfl,_,rfl,pw,_,_,_,rfl,rfl,tA _ _ hW,bv hxv,pW,_,_,_,rfl,rfl,tA _ _ hSw,rfl,_,_,rfl,rfl,_,_,rfl,?_,fun D hD=>?_⟩
   ·refine⟨by omega,by omega,by omega,by omega⟩
   rw [e1]
   refine cH (gT (lo:=((w_.1:Nat):Int))) (fun m=>!(bC (p.take (i+1))).contains (w_.1+m)) (fun m=>V.int ((w_.1:Nat)+(m:Nat):Int)) hD (by omega) (fun m x H' hi s' hx R E kR kE=>?_) fun HB sB hB=>?_
   ·subst hx
    refine⟨ji.set rfl,_,rfl,_,rfl,l9,_,rfl,.inl (bj.of (s' _ _ qA)),rfl,(by unfold au;rw [List.all_map];exact List.all_eq_true.mpr fun _ _=>rfl),?_⟩
    refine⟨_,rfl,?_⟩
    rw [show sF (V.int ((w_.1:Nat)+(m:Nat):Int)) (au (bC (p.take (i+1))))=(bC (p.take (i+1))).contains (w_.1+m) from kb _ _]
    cases cc:(bC (p.take (i+1))).contains (w_.1+m) with
    | true=>exact bS (kE (by rw [cc];rfl) _ (aw.refl _))
    | false=>exact cD ⟨_,rfl,kR (by rw [cc];rfl) _ (aw.refl _)⟩
   have nn:i4 (bC (p.take (i+1))) w_=true↔((List.range (w_.2.1+1 - w_.1)).filter fun m=>!(bC (p.take (i+1))).contains (w_.1+m))=[]:=by
    unfold i4
    rw [List.filter_eq_nil_iff,List.all_eq_true]
    constructor
    ·intro h m hm
     rw [h m hm]
     exact Bool.false_ne_true
    ·intro h m hm
     have:=h m hm
     simpa using this
   refine⟨D,_,rfl,.inl (bj.of hB),_,_,rfl,rfl,_,rfl,?_⟩
   rw [List.length_map]
   have gw:ws.getD (y.2.getD j 0) rg=w_:=by rw [aN 0 (List.getElem?_eq_getElem hjl)];exact aN _ hwd
   cases cl:i4 (bC (p.take (i+1))) w_ with
   | false=>
    refine cv ?_ ?_
    ·have:((List.range (w_.2.1+1 - w_.1)).filter fun m=>!(bC (p.take (i+1))).contains (w_.1+m))≠[]:=fun z=>by rw [nn.mpr z] at cl;cases cl
     have:=List.length_pos_iff.mpr this
     omega
    have bw:pE ws p i=true:=by
     unfold pE
     rw [gy,List.any_eq_true]
     refine⟨y.2[j],List.getElem_mem hjl,?_⟩
     rw [aN rg hwd,cl]
     rfl
    exact⟨_,rfl,dE,fun pz hz=>ret (by unfold ij;rw [on];unfold rh vI;rw [hX hil bw g7];rfl) (sHA.trans sB) pz hz⟩
   | true=>
    rw [nn.mp cl]
    refine bO (by decide) ⟨_,rfl,sA.trans sB,fun m hm=>?_⟩
    by_cases z:m < j
    ·exact gA m z
    ·have:m=j:=by omega
     subst this
     rw [gw]
     exact cl
  ·rintro σ HA ⟨x7,rfl,sA,gA⟩
   refine⟨_,_,l9,rfl,s9.trans sA,sA _ _ q9,by rw [ft,List.length_append];omega,fun m hm=>?_⟩
   by_cases z:m < i
   ·exact g7 m z
   ·have:m=i:=by omega
    subst this
    unfold pE
    rw [gy,List.any_eq_false]
    intro t ht
    obtain⟨j,hj,rfl⟩:=List.mem_iff_getElem.mp ht
    have:=gA j (by omega)
    rw [aN 0 (List.getElem?_eq_getElem hj)] at this
    rw [this]
    exact Bool.false_ne_true
 rintro σ H7 ⟨x4,x7,lm,rfl,s7,q7,l24,g7⟩
 refine k4 _ _ ?_
 have wo:rh ws p=none:=by unfold rh vI;rw [hV fun j hj=>g7 j (by omega)];rfl
 refine⟨_,rfl,pc,_,rfl,.inr (bn.same (K:=K) s7 _ _ hS),_,_,rfl,?_,dk (lo:=1) (n:=((xs.length:Int) - 1).toNat) (fun i σ H'=>∃ (x4:Option V),σ=[some (.ref pw),some (.ref pc),x2,x3,x4,x5,some (.ref lm),x7]/\aw H H'/\∀ m,m < i->ja ws p m=false) ⟨_,rfl,s7,fun m hm=>absurd hm (Nat.not_lt_zero _)⟩ ?_ ?_⟩
 ·refine⟨by omega,by omega,by omega,by omega⟩
 ·rintro i σ H8 hi ⟨x4,rfl,s8,g8⟩
  have t8:=bn.same (K:=K) s8
  have hi1:i+1 < p.length:=by omega
  obtain⟨xa,hxa⟩:∃ x,xs[i]?=some x:=⟨_,List.getElem?_eq_getElem (by omega)⟩
  obtain⟨xb,hxb⟩:∃ x,xs[i+1]?=some x:=⟨_,List.getElem?_eq_getElem (by omega)⟩
  obtain⟨ya,hya,lya⟩:=al.at hxa
  obtain⟨yb,hyb,lyb⟩:=al.at hxb
  have ga:p.getD i ([],[])=ya:=aN _ hya
  have gb:p.getD (i+1) ([],[])=yb:=aN _ hyb
  have c1:jm xs (1+(i:Int) - 1)=some xa:=by rw [show 1+(i:Int) - 1=((i:Nat):Int) by omega];exact bv hxa
  have c2:jm xs (1+(i:Int))=some xb:=by rw [show 1+(i:Int)=((i+1:Nat):Int) by omega];exact bv hxb
  have la:=(rs ya (List.mem_of_getElem? hya)).ok
  have lb:=(rs yb (List.mem_of_getElem? hyb)).ok
  refine⟨_,rfl,_,rfl,_,rfl,_,_,rfl,rfl,pc,_,_,_,rfl,rfl,t8 _ _ hS,c1,.ref pw,xa,ws,ya,rfl,⟨pw,xw,rfl,t8 _ _ hW,alW.mono fun _ _ q=>q.mono t8⟩,by omega,a.ok,lya.mono t8,la,fun ua HA sA rA=>?_⟩
  have tA:=t8.trans (bn.same (K:=K) sA)
  refine⟨_,rfl,_,rfl,_,rfl,pc,_,_,_,rfl,rfl,tA _ _ hS,c2,.ref pw,xb,ws,yb,rfl,⟨pw,xw,rfl,tA _ _ hW,alW.mono fun _ _ q=>q.mono tA⟩,by omega,a.ok,lyb.mono tA,lb,fun ub HB sB rB=>?_⟩
  have sHB:=(s8.trans sA).trans sB
  refine⟨ua,ub,_,_,40,40,rfl,rA.mono (bn.same sB),rB,j4 a.ok w9 la,j4 a.ok w9 lb,by decide,_,rfl,?_⟩
  have fb:ja ws p i=gD (ku ws ya) (ku ws yb):=by unfold ja;rw [ga,gb]
  rw [← fb]
  cases c:ja ws p i with
  | true=>
   refine cD ?_
   exact⟨_,rfl,dE,fun pz hz=>ret (by unfold ij;rw [on,wo];unfold vk qN;rw [hX (i:=i) (by omega) c g8];rfl) sHB pz hz⟩
  | false=>
   refine bS ⟨_,rfl,sHB,fun m hm=>?_⟩
   by_cases z:m < i
   ·exact g8 m z
   ·have:m=i:=by omega
    subst this
    exact c
 ·rintro σ H8 ⟨x4,rfl,s8,g8⟩
  refine k _ _ s8 ?_
  rw [show ij ws p=none by unfold ij;rw [on,wo];unfold vk qN;rw [hV fun j hj=>g8 j (by omega)];rfl]
  exact rfl
theorem si (T:eR K mg t):bK P w K mg base d9 1 t.a_Q37 t.d_Q37 ["_law_some"] (rF K):=by
 refine T.F_Q37.ok oG (fun vs H Q E h=>?_) (fun cdv A outer s H vs Q E hr h=>?_)
 ·obtain⟨_,_,_,rfl,_⟩:=h;rfl
 obtain⟨l,xs,lys,rfl,hS,al,l64,t64,n64,k⟩:=h
 refine dU.ok (ag (cV 1 oG.nd (bD ad))
   (ag (cV 2 oG.nd (bD ad))
   (ag (bZ PassesOwn.never rfl (fc (qv 0)) (aG (i:=3) oG.nd rfl (by first | exact Or.inl rfl | exact Or.inr rfl))
   (ag (dh (io PySem.F.plainAttrs_list PySem.F.slot_list_extend PySem.F.type_list_extend oY (qv 1) (aa (bX ay (qv 3) ae) ad aD)))
   (ah (dh (io PySem.F.plainAttrs_list PySem.F.slot_list_extend PySem.F.type_list_extend oY (qv 2) (aa (bX ay (qv 3) ae) ad aD))))))
   (ah (aC (az (aa (bc br (by rfl) T.z_tuple boot_tuple (aa (aj gM (by rfl) T.z_sorted boot_sorted (aa (qv 1) ad ac)) ad ao)) (aa (bc br (by rfl) T.z_tuple boot_tuple (aa (aj gM (by rfl) T.z_sorted boot_sorted (aa (qv 2) ad ac)) ad ao)) ad ao) ao))))))) ?_
 try dsimp only [Cx.nox,Cx.wish,bP]
 have lx:=al.len
 refine⟨(by show 0≤sizeLine;exact Nat.zero_le _),fun l1 g1=>⟨(by show 0≤sizeLine;exact Nat.zero_le _),fun l2 g2=>?_⟩⟩
 have s1:=ak g1 (.lst [])
 have n12:l1≠l2:=fun z=>by subst z;rw [af] at g2;cases g2
 have h2:H l2=none:=by
  cases e:H l2 with
  | none=>rfl
  | some o=>rw [s1 _ _ e] at g2;cases g2
 have s2:=s1.trans (ak g2 (.lst []))
 have hl1:upd (upd H l1 (.lst [])) l2 (.lst []) l1=some (.lst []):=by rw [aJ n12];exact af
 have hl2:upd (upd H l1 (.lst [])) l2 (.lst []) l2=some (.lst []):=af
 generalize upd (upd H l1 (.lst [])) l2 (.lst [])=H2 at s2 hl1 hl2 ⊢
 refine⟨_,rfl,l,rfl,⟨_,s2.seq hS⟩,gI (K:=K) (a:=l) (xs:=xs) (fun i σ H'=>∃ x3:Option V,σ=[some (.ref l),some (.ref l1),some (.ref l2),x3]/\aw H H'/\H' l1=some (.lst (au ((lys.take i).flatMap (·.1))))/\H' l2=some (.lst (au ((lys.take i).flatMap (·.2))))) ⟨none,rfl,s2,hl1,hl2⟩ (fun i σ H1 _ ⟨_,_,sm,_⟩=>sm.seq hS) ?_ ?_⟩
 ·rintro i x σ H3 hx ⟨x3,rfl,sm,e1,e2⟩
  obtain⟨y,hy,ly⟩:=al.at hx
  have t3:=bn.same (K:=K) sm
  obtain⟨pL,a,b,rfl,hpL,ha,hb⟩:=ly.mono t3
  have tk:lys.take (i+1)=lys.take i++[y]:=by rw [List.take_add_one,hy];rfl
  have f1:=dX (f:=(·.1)) lys (i+1)
  have f2:=dX (f:=(·.2)) lys (i+1)
  rw [tk,List.flatMap_append,List.length_append] at f1 f2
  have z1:([y].flatMap fun z:Ly=>z.1)=y.1:=by simp
  have z2:([y].flatMap fun z:Ly=>z.2)=y.2:=by simp
  rw [z1] at f1
  rw [z2] at f2
  refine⟨_,rfl,.inl ⟨rfl,_,bj.of e1⟩,_,rfl,pL,_,_,_,rfl,rfl,hpL,rfl,l1,a,_,_,rfl,rfl,e1,ha,by unfold au;rw [List.length_map,List.length_map];omega,?_⟩
  rw [eI]
  have tu:=bn.up (K:=K) e1 (au ((lys.take i).flatMap (·.1)++y.1))
  have e2':upd H3 l1 (.lst (au ((lys.take i).flatMap (·.1)++y.1))) l2=some (.lst (au ((lys.take i).flatMap (·.2)))):=by rw [aJ n12.symm];exact e2
  have e1':upd H3 l1 (.lst (au ((lys.take i).flatMap (·.1)++y.1))) l1=some (.lst (au ((lys.take i).flatMap (·.1)++y.1))):=af
  have sm':aw H (upd H3 l1 (.lst (au ((lys.take i).flatMap (·.1)++y.1)))):=fun b_ o_ q_=>by rw [aJ (aV q_ g1)];exact sm _ _ q_
  generalize upd H3 l1 (.lst (au ((lys.take i).flatMap (·.1)++y.1)))=H4 at tu e1' e2' sm' ⊢
  refine⟨_,rfl,.inl ⟨rfl,_,bj.of e2'⟩,_,rfl,pL,_,_,_,rfl,rfl,tu _ _ hpL,rfl,l2,b,_,_,rfl,rfl,e2',tu _ _ hb,by unfold au;rw [List.length_map,List.length_map];omega,?_⟩
  rw [eI]
  refine⟨_,rfl,fun b_ o_ q_=>?_,?_,?_⟩
  ·rw [aJ (aV q_ h2)];exact sm' _ _ q_
  ·rw [aJ n12,e1',tk,List.flatMap_append,z1]
  ·rw [af,tk,List.flatMap_append,z2]
 ·rintro σ H3 ⟨x3,rfl,sm,e1,e2⟩
  rw [lx,List.take_length] at e1 e2
  generalize lys.flatMap (·.1)=T1 at e1 t64 k
  generalize lys.flatMap (·.2)=T2 at e2 n64 k
  refine⟨_,rfl,l1,T1.map (fun n:Nat=>(n:Int)),rfl,.inl (by rw [← gu];exact bj.of e1),by rw [List.length_map];exact t64,fun l3 ms pm pw h3=>?_⟩
  obtain⟨m1,em1,pm1⟩:=kO pm
  rw [em1]
  have s3:=ak h3 (.lst (au m1))
  refine⟨l3,_,rfl,.inl ⟨bj.of af,fun p4 h4=>?_⟩⟩
  have s4:=s3.trans (ak h4 (.tup (au m1)))
  have q4:aZ K (upd (upd H3 l3 (.lst (au m1))) p4 (.tup (au m1))) p4 (au m1):=aZ.of af
  generalize upd (upd H3 l3 (.lst (au m1))) p4 (.tup (au m1))=H4 at s4 q4 ⊢
  refine⟨_,rfl,l2,T2.map (fun n:Nat=>(n:Int)),rfl,.inl (by rw [← gu];exact bj.of (s4 _ _ e2)),by rw [List.length_map];exact n64,fun l5 ms2 pm2 pw2 h5=>?_⟩
  obtain⟨m2,em2,pmm2⟩:=kO pm2
  rw [em2]
  have s5:=ak h5 (.lst (au m2))
  refine⟨l5,_,rfl,.inl ⟨bj.of af,fun p6 h6=>?_⟩⟩
  have s6:=s5.trans (ak h6 (.tup (au m2)))
  have q6:aZ K (upd (upd H4 l5 (.lst (au m2))) p6 (.tup (au m2))) p6 (au m2):=aZ.of af
  generalize upd (upd H4 l5 (.lst (au m2))) p6 (.tup (au m2))=H6 at s6 q6 ⊢
  refine⟨dE,fun p7 h7=>?_⟩
  have s7:=ak h7 (.tup [.ref p4,.ref p6])
  have t7:=bn.same (K:=K) s7
  exact k (.ref p7) (m1,m2) _ (((sm.trans s4).trans s6).trans s7) ⟨p7,p4,p6,rfl,aZ.of af,t7 _ _ (bn.same (K:=K) s6 _ _ q4),t7 _ _ q6⟩ pm1 pmm2
theorem CC (T:eR K mg t):bK P w K mg base d9 4 t.a_Q14 t.d_Q14 ["_law_tape_here", "_law_works_here"] (lO K):=by
 refine T.F_Q14.ok kF (fun vs H Q E h=>?_) (fun cdv A outer s H vs Q E hr h=>?_)
 ·obtain⟨_,_,_,_,rfl,_⟩:=h;rfl
 obtain⟨t₁,s₁,v,ws,rfl,tp,wv,w9,ok,k⟩:=h
 refine dU.ok (ag (cV 2 kF.nd (dA (CD T) hr T.m_Q13 T.F_Q13.kp T.b_Q13 (aa (qv 1) ad ac)))
   (aY (cV 3 kF.nd (bD (aa (bc br (by rfl) T.z_tuple boot_tuple (aa (qv 2) ad ac)) (aa (az (aa (az (aa (bc (jQ rfl) (by rfl) T.z_tuple boot_tuple (aa (oO rfl T.z_range (aa ae ad ap)) ad ao)) (aa (bc (jQ rfl) (by rfl) T.z_tuple boot_tuple (aa (oO rfl T.z_range (aa (aj ar (by rfl) T.z_len boot_len (aa (qv 1) ad ac)) ad ao)) ad ao)) ad ao) ao)) ad aF)) ad aF) ao)))
   (ag (bh (aH iw (aj ar (by rfl) T.z_len boot_len (aa (qv 2) ad ac)) ae (aK _)) (ag (cV 4 kF.nd (aB cI ae (dA (cP T) hr T.m_Q28 T.F_Q28.kp T.b_Q28 (aa (qv 0) (aa (aj ar (by rfl) T.z_len boot_len (aa (qv 2) ad ac)) ad ao) ac))))
   (aY (dh (io PySem.F.plainAttrs_list PySem.F.slot_list_append PySem.F.type_list_append dG (qv 3) (aa (aB bQ (az (aa (dA (si T) hr T.m_Q37 T.F_Q37.kp T.b_Q37 (aa (bE gU (qv 2) bT (bM (qv 4))) ad aD)) ad ao)) (bc br (by rfl) T.z_tuple boot_tuple (aa (bE gU (qv 2) (bM (qv 4)) bT) ad aD))) ad aX)))
   (aY (dh (io PySem.F.plainAttrs_list PySem.F.slot_list_append PySem.F.type_list_append dG (qv 3) (aa (aB bQ (bc br (by rfl) T.z_tuple boot_tuple (aa (bE gU (qv 2) bT (bM (aB fS (qv 4) ae))) ad aD)) (az (aa (dA (si T) hr T.m_Q37 T.F_Q37.kp T.b_Q37 (aa (bE gU (qv 2) (bM (aB fS (qv 4) ae)) bT) ad aD)) ad ao))) ad aX)))
   (ag (iZ (i:=5) (N':=["_law_turn", "_law_found"]) (src:=[none,some 2]) kF.nd rfl (by first | exact Or.inl rfl | exact Or.inr rfl) rfl (by exact (dj rfl T.z_range (aa ae ad ap))) (fun _ _ _ _ _=>(by exact (by exact aG (i:=0) (by show List.Nodup (["_law_turn", "_law_found"]:List Str);decide +kernel) (by exact rfl) (by first | exact Or.inl rfl | exact Or.inr rfl)))) (fun _ _ _ _ _=>(gX (aH (fq (K:=K) (by exact rfl)) (by exact (qv 0)) (by exact (cj (bG (K:=K) (by exact rfl)) (by exact (dP (si T) (by exact hr.mono (by decide)) (by exact rfl) T.m_Q37 T.F_Q37.kp T.b_Q37 (by exact .nil) (by exact jK) (aa (by exact (qv 1)) ad ac))) ae (by exact fun _ _=>rfl))) (by with_unfolding_all rfl)))) (fun _ _ _ _ _=>(by exact (by exact (qv 0)))) (by exact⟨rfl,rfl,rfl,rfl,trivial⟩) rfl (by decide +kernel) rfl (by decide +kernel) (by exact bz rfl ⟨rfl,trivial⟩))
   (ah (bh (aH iw (aj ar (by rfl) T.z_len boot_len (aa (qv 5) ad ac)) ae (aK _)) (aY (dh (io PySem.F.plainAttrs_list PySem.F.slot_list_append PySem.F.type_list_append dG (qv 3) (aa (aB bQ (bc br (by rfl) T.z_tuple boot_tuple (aa (qv 2) ad ac)) (az (aa (az (aa (bc br (by rfl) T.z_tuple boot_tuple (aa (qv 5) ad ac)) (aa (az ad) ad aF) ao)) ad aF))) ad aX)))
   (ah (dh (io PySem.F.plainAttrs_list PySem.F.slot_list_append PySem.F.type_list_append dG (qv 3) (aa (aB bQ (bc br (by rfl) T.z_tuple boot_tuple (aa (bE gU (qv 2) bT (bM (fH dJ ae))) ad aD)) (az (aa (az (aa (bc br (by rfl) T.z_tuple boot_tuple (aa (aj gM (by rfl) T.z_sorted boot_sorted (aa (aB bQ (bX ay (bX bH (qv 2) (fH dJ ae)) ae) (az (aa (bX bH (qv 5) ae) ad aD))) ad aX)) ad ao)) (aa (bX ay (bX bH (qv 2) (fH dJ ae)) ae) ad aD) ao)) ad aF))) ad aX))))) aE)))))) aE)
   (ah (aC (qv 3)))))) ?_
 try dsimp only [Cx.nox,Cx.wish,bP]
 obtain⟨pw,xw,rfl,hW,alw⟩:=wv
 have hd_:=tp.lst
 have tp0:=tp.lst
 have S0:bB t₁ H H:=⟨fun _ _ _ q=>q,tp.lst,tp.lst⟩
 refine⟨_,rfl,.ref pw,ws,rfl,⟨pw,xw,rfl,hW,alw⟩,by omega,ok,fun lf xf lys HF eF hf0 hf alf hLy lok l64=>?_⟩
 have nlf:=xn hf0 tp.lst
 have lxw:=alw.len
 obtain⟨S0,tp,hd_⟩:=gf eF S0 tp hd_
 replace hW:=tS eF hW
 have lxf:=alf.len
 have ft:=vc hLy
 have fn:=xB List.nodup_range hLy
 have nv:lS ws (List.range 24)≤ws.length:=List.countP_le_length
 rw [List.length_range] at ft
 have fm:=nK lok
 intro R1 kC1
 refine⟨_,rfl,lf,_,rfl,.inl ⟨bj.of hf,?_⟩⟩
 intro pu1 gu1
 generalize hG:upd HF pu1 (.tup xf)=Hu1
 obtain⟨eu1,hu1,du1⟩:=jk hG gu1 tp.lst hd_
 obtain⟨S0,tp,hd_⟩:=gf eu1 S0 tp hd_
 replace hW:=tS eu1 hW
 replace hf:=eu1 _ _ hf
 replace alf:=aM eu1 alf
 have pv1:eQ K Hu1 (.ref pu1) lys:=⟨pu1,xf,rfl,aZ.of hu1,alf⟩
 clear eu1 hu1 du1 hG
 refine⟨_,rfl,fun pu2 gu2=>?_⟩
 generalize hG:upd Hu1 pu2 (.rng 0 24)=Hu2
 obtain⟨eu2,hu2,du2⟩:=jk hG gu2 tp.lst hd_
 obtain⟨S0,tp,hd_⟩:=gf eu2 S0 tp hd_
 replace hW:=tS eu2 hW
 replace hf:=eu2 _ _ hf
 replace alf:=aM eu2 alf
 replace pv1:=pv1.mono (bn.same eu2)
 have hr1:=hu2
 clear eu2 hu2 du2 hG
 refine⟨pu2,24,rfl,hr1,by decide,fun pu3 gu3=>?_⟩
 generalize hG:upd Hu2 pu3 (.tup ((B.upTo 24).map V.int))=Hu3
 obtain⟨eu3,hu3,du3⟩:=jk hG gu3 tp.lst hd_
 obtain⟨S0,tp,hd_⟩:=gf eu3 S0 tp hd_
 replace hW:=tS eu3 hW
 replace hf:=eu3 _ _ hf
 replace alf:=aM eu3 alf
 replace pv1:=pv1.mono (bn.same eu3)
 replace hr1:=eu3 _ _ hr1
 have sq1:aZ K Hu3 pu3 (au (List.range 24)):=(by rw [show au (List.range 24)=(B.upTo 24).map V.int by unfold au B.upTo;rw [List.map_map];rfl];exact aZ.of hu3)
 clear eu3 hu3 du3 hG
 refine⟨_,rfl,pw,_,rfl,.inr hW,_,rfl,fun pu4 gu4=>?_⟩
 generalize hG:upd Hu3 pu4 (.rng 0 (xw.length:Int))=Hu4
 obtain⟨eu4,hu4,du4⟩:=jk hG gu4 tp.lst hd_
 obtain⟨S0,tp,hd_⟩:=gf eu4 S0 tp hd_
 replace hW:=tS eu4 hW
 replace hf:=eu4 _ _ hf
 replace alf:=aM eu4 alf
 replace pv1:=pv1.mono (bn.same eu4)
 replace sq1:=tS eu4 sq1
 have hr2:=hu4
 clear eu4 hu4 du4 hG
 refine⟨pu4,xw.length,rfl,hr2,by omega,fun pu5 gu5=>?_⟩
 generalize hG:upd Hu4 pu5 (.tup ((B.upTo xw.length).map V.int))=Hu5
 obtain⟨eu5,hu5,du5⟩:=jk hG gu5 tp.lst hd_
 obtain⟨S0,tp,hd_⟩:=gf eu5 S0 tp hd_
 replace hf:=eu5 _ _ hf
 replace alf:=aM eu5 alf
 replace pv1:=pv1.mono (bn.same eu5)
 replace sq1:=tS eu5 sq1
 replace hr2:=eu5 _ _ hr2
 have sq2:aZ K Hu5 pu5 (au (List.range ws.length)):=(by rw [← lxw,show au (List.range xw.length)=(B.upTo xw.length).map V.int by unfold au B.upTo;rw [List.map_map];rfl];exact aZ.of hu5)
 clear eu5 hu5 du5 hG
 refine⟨dE,fun pu6 gu6=>?_⟩
 generalize hG:upd Hu5 pu6 (.tup [V.ref pu3,V.ref pu5])=Hu6
 obtain⟨eu6,hu6,du6⟩:=jk hG gu6 tp.lst hd_
 obtain⟨S0,tp,hd_⟩:=gf eu6 S0 tp hd_
 replace hf:=eu6 _ _ hf
 replace alf:=aM eu6 alf
 replace pv1:=pv1.mono (bn.same eu6)
 replace sq1:=tS eu6 sq1
 replace sq2:=tS eu6 sq2
 have lv3:gR K Hu6 (.ref pu6) (List.range 24,List.range ws.length):=⟨pu6,pu3,pu5,rfl,aZ.of hu6,sq1,sq2⟩
 clear eu6 hu6 du6 hG
 refine⟨iS,fun pu7 gu7=>?_⟩
 generalize hG:upd Hu6 pu7 (.tup [V.ref pu6])=Hu7
 obtain⟨eu7,hu7,du7⟩:=jk hG gu7 tp.lst hd_
 obtain⟨S0,tp,hd_⟩:=gf eu7 S0 tp hd_
 replace hf:=eu7 _ _ hf
 replace alf:=aM eu7 alf
 replace pv1:=pv1.mono (bn.same eu7)
 replace lv3:=lv3.mono (bn.same eu7)
 have pv4:eQ K Hu7 (.ref pu7) [(List.range 24,List.range ws.length)]:=⟨pu7,_,rfl,aZ.of hu7,.cons lv3 .nil⟩
 clear eu7 hu7 du7 hG
 refine⟨dE,fun pu8 gu8=>?_⟩
 have Sb:=S0
 have gP:=gu8
 have off:=tp.off gu8
 have nfP:=aV hf gu8
 generalize hG:upd Hu7 pu8 (.lst [V.ref pu1,V.ref pu7])=Hu8
 obtain⟨eu8,hu8,du8⟩:=jk hG gu8 tp.lst hd_
 have nu8:=xn gu8 tp.lst
 obtain⟨S0,tp,hd_⟩:=gf eu8 S0 tp hd_
 replace hf:=eu8 _ _ hf
 replace alf:=aM eu8 alf
 replace pv1:=pv1.mono (bn.same eu8)
 replace pv4:=pv4.mono (bn.same eu8)
 have hP:=hu8
 have alP:cL (eQ K Hu8) [V.ref pu1,V.ref pu7] [lys,[(List.range 24,List.range ws.length)]]:=.cons pv1 (.cons pv4 .nil)
 clear eu8 hu8 du8 hG
 have hP0:H pu8=none:=by
  cases e:H pu8 with
  | none=>rfl
  | some o=>rw [Sb.keep _ _ nu8 e] at gP;cases gP
 have okP:∀ q∈([lys,[(List.range 24,List.range ws.length)]]:List (List Ly)),jg ws.length q:=uX (BR lok (by omega)) (uX ⟨by show 1≤26;decide,kL ⟨by show 0 < (List.range 24).length;decide,by show (List.range 24).length≤25;decide,(fun t ht=>List.mem_range.mp ht),(fun i hi=>List.mem_range.mp hi),by show (List.range ws.length).length≤ws.length;rw [List.length_range];exact Nat.le_refl _⟩⟩ wG)
 refine kC1 _ _ ?_
 refine⟨_,rfl,lf,_,rfl,.inl (bj.of hf),_,_,rfl,rfl,_,rfl,sx (fun c=>?_) (fun c=>⟨_,rfl,k pu8 [V.ref pu1,V.ref pu7] [lys,[(List.range 24,List.range ws.length)]] _ S0 tp hP alP okP (by simp)⟩)⟩
 have c':=of_decide_eq_true c
 refine⟨_,rfl,_,rfl,lf,_,rfl,.inl (bj.of hf),t₁,s₁,_,rfl,tp,by omega,by omega,fun ru9 zu9 au9 bu9 Tu9=>?_⟩
 have Su9:=bB.up (ys:=zu9) tp.lst.choose_spec
 replace S0:=S0.trans Su9
 replace hd_:=Su9.tp'
 replace hf:=Su9.keep _ _ nlf hf
 replace alf:=aT Su9 alf
 replace hP:=Su9.keep _ _ nu8 hP
 replace alP:=aT Su9 alP
 replace tp:=Tu9
 clear Tu9 Su9
 generalize upd Hu8 t₁ (.lst zu9)=Hu9 at S0 tp hd_ hf alf hP alP ⊢
 obtain⟨a0,rfl⟩:=Int.eq_ofNat_of_zero_le au9
 refine⟨_,_,rfl,rfl,?_⟩
 obtain⟨n1,hn1,n1a,n1b⟩:∃ n:Nat,1+((a0:Nat):Int)=(n:Int)/\1≤n/\n≤lys.length:=⟨1+a0,by omega,by omega,by omega⟩
 dsimp only
 rw [hn1]
 intro R3 kC3
 refine⟨_,rfl,.inl ⟨rfl,_,bj.of hP⟩,_,rfl,_,rfl,_,rfl,lf,_,rfl,bj.of hf,fun pu10 gu10=>?_⟩
 generalize hG:upd Hu9 pu10 (.lst (dY xf none (some ((n1:Nat):Int))))=Hu10
 obtain⟨eu10,hu10,du10⟩:=jk hG gu10 tp.lst hd_
 have nu10:=xn gu10 tp.lst
 obtain⟨S0,tp,hd_⟩:=gf eu10 S0 tp hd_
 replace hf:=eu10 _ _ hf
 replace alf:=aM eu10 alf
 replace hP:=eu10 _ _ hP
 replace alP:=aM eu10 alP
 have ls1:Hu10 pu10=some (.lst (xf.take n1)):=(by have z:=hu10;rw [eh] at z;exact z)
 have al1:cL (gR K Hu10) (xf.take n1) (lys.take n1):=cL.take n1 alf
 clear eu10 hu10 du10 hG
 have k1:=dX (f:=(·.1)) lys n1
 have k2:=dX (f:=(·.2)) lys n1
 refine⟨pu10,_,lys.take n1,rfl,bj.of ls1,al1,by rw [List.length_take];omega,by omega,by omega,fun vo yo HO eO lvo pmo pno=>?_⟩
 obtain⟨S0,tp,hd_⟩:=gf eO S0 tp hd_
 replace hf:=eO _ _ hf
 replace alf:=aM eO alf
 replace hP:=eO _ _ hP
 replace alP:=aM eO alP
 have oko:dH ws.length yo:=w6 (fun z hz=>lok z (List.mem_of_mem_take hz)) (by intro z;have:=congrArg List.length z;rw [List.length_take,List.length_nil] at this;omega) (by omega) (by omega) pmo pno
 refine⟨iS,fun pu11 gu11=>?_⟩
 generalize hG:upd HO pu11 (.tup [vo])=Hu11
 obtain⟨eu11,hu11,du11⟩:=jk hG gu11 tp.lst hd_
 obtain⟨S0,tp,hd_⟩:=gf eu11 S0 tp hd_
 replace hf:=eu11 _ _ hf
 replace alf:=aM eu11 alf
 replace hP:=eu11 _ _ hP
 replace alP:=aM eu11 alP
 replace lvo:=lvo.mono (bn.same eu11)
 have sq3:=aZ.of (K:=K) hu11
 clear eu11 hu11 du11 hG
 refine⟨_,rfl,_,rfl,_,rfl,lf,_,rfl,bj.of hf,fun pu12 gu12=>?_⟩
 generalize hG:upd Hu11 pu12 (.lst (dY xf (some ((n1:Nat):Int)) none))=Hu12
 obtain⟨eu12,hu12,du12⟩:=jk hG gu12 tp.lst hd_
 have nu12:=xn gu12 tp.lst
 obtain⟨S0,tp,hd_⟩:=gf eu12 S0 tp hd_
 replace hf:=eu12 _ _ hf
 replace alf:=aM eu12 alf
 replace hP:=eu12 _ _ hP
 replace alP:=aM eu12 alP
 replace lvo:=lvo.mono (bn.same eu12)
 replace sq3:=tS eu12 sq3
 have ls2:Hu12 pu12=some (.lst (xf.drop n1)):=(by have z:=hu12;rw [dq] at z;exact z)
 have al2:cL (gR K Hu12) (xf.drop n1) (lys.drop n1):=cL.drop n1 alf
 clear eu12 hu12 du12 hG
 refine⟨pu12,_,rfl,.inl ⟨bj.of ls2,?_⟩⟩
 intro pu13 gu13
 generalize hG:upd Hu12 pu13 (.tup (xf.drop n1))=Hu13
 obtain⟨eu13,hu13,du13⟩:=jk hG gu13 tp.lst hd_
 obtain⟨S0,tp,hd_⟩:=gf eu13 S0 tp hd_
 replace hf:=eu13 _ _ hf
 replace alf:=aM eu13 alf
 replace hP:=eu13 _ _ hP
 replace alP:=aM eu13 alP
 replace lvo:=lvo.mono (bn.same eu13)
 replace sq3:=tS eu13 sq3
 replace ls2:=eu13 _ _ ls2
 replace al2:=aM eu13 al2
 have sq4:=aZ.of (K:=K) hu13
 clear eu13 hu13 du13 hG
 refine⟨pu11,pu13,_,_,rfl,rfl,sq3,sq4,Nat.le_trans (show _≤1000 by first | omega | (simp <;> omega)) dI,fun pu14 Hu14 eu14 cu14=>?_⟩
 obtain⟨S0,tp,hd_⟩:=gf eu14 S0 tp hd_
 replace hf:=eu14 _ _ hf
 replace alf:=aM eu14 alf
 replace hP:=eu14 _ _ hP
 replace alP:=aM eu14 alP
 replace lvo:=lvo.mono (bn.same eu14)
 replace sq3:=tS eu14 sq3
 replace al2:=aM eu14 al2
 replace sq4:=tS eu14 sq4
 have pvu14:eQ K Hu14 (.ref pu14) ([yo]++lys.drop n1):=⟨pu14,[vo]++xf.drop n1,rfl,cu14,.cons lvo al2⟩
 clear eu14
 refine⟨pu8,[V.ref pu1,V.ref pu7],_,rfl,rfl,hP,cF (by first | omega | (simp;done) | (simp <;> omega)),?_⟩
 have tuu15:=bn.up (K:=K) hP ([V.ref pu1,V.ref pu7]++[.ref pu14])
 replace S0:bB t₁ H (upd Hu14 pu8 (.lst ([V.ref pu1,V.ref pu7]++[.ref pu14]))):=⟨fun b o nb q=>by rw [aJ (aV q hP0)];exact S0.keep b o nb q,tp0,(tp.upl nu8 off (.lst ([V.ref pu1,V.ref pu7]++[.ref pu14]))).lst⟩
 replace tp:=tp.upl nu8 off (.lst ([V.ref pu1,V.ref pu7]++[.ref pu14]))
 replace hf:upd Hu14 pu8 (.lst ([V.ref pu1,V.ref pu7]++[.ref pu14])) lf=some (.lst xf):=by rw [aJ nfP];exact hf
 replace hP:upd Hu14 pu8 (.lst ([V.ref pu1,V.ref pu7]++[.ref pu14])) pu8=some (.lst ([V.ref pu1,V.ref pu7]++[.ref pu14])):=af
 replace alf:=aU tuu15 alf
 replace alP:=aU tuu15 alP
 replace lvo:=lvo.mono tuu15
 replace sq3:=tuu15 _ _ sq3
 replace al2:=aU tuu15 al2
 replace sq4:=tuu15 _ _ sq4
 replace pvu14:=pvu14.mono tuu15
 replace alP:cL (eQ K (upd Hu14 pu8 (.lst ([V.ref pu1,V.ref pu7]++[.ref pu14])))) ([V.ref pu1,V.ref pu7]++[.ref pu14]) ([lys,[(List.range 24,List.range ws.length)]]++[[yo]++lys.drop n1]):=alP.snoc pvu14
 replace okP:=ze okP (uX (oP (a:=[yo]) (b:=lys.drop n1) (kL oko) (fun z hz=>lok z (List.mem_of_mem_drop hz)) (by rw [List.length_drop];show 1+_≤26;omega)) wG)
 have hd_:=tp.lst
 clear pvu14
 generalize upd Hu14 pu8 (.lst ([V.ref pu1,V.ref pu7]++[.ref pu14]))=Hu15 at S0 tp hd_ hf alf hP alP lvo sq3 al2 sq4 ⊢
 have e1:((n1:Nat):Int) - 1=((n1 - 1:Nat):Int):=by omega
 refine kC3 _ _ ?_
 intro R4 kC4
 refine⟨_,rfl,.inl ⟨rfl,_,bj.of hP⟩,_,rfl,_,rfl,_,_,rfl,rfl,_,rfl,lf,_,rfl,bj.of hf,fun pu16 gu16=>?_⟩
 generalize hG:upd Hu15 pu16 (.lst (dY xf none (some (((n1:Nat):Int) - 1))))=Hu16
 obtain⟨eu16,hu16,du16⟩:=jk hG gu16 tp.lst hd_
 have nu16:=xn gu16 tp.lst
 obtain⟨S0,tp,hd_⟩:=gf eu16 S0 tp hd_
 replace hf:=eu16 _ _ hf
 replace alf:=aM eu16 alf
 replace hP:=eu16 _ _ hP
 replace alP:=aM eu16 alP
 have ls5:Hu16 pu16=some (.lst (xf.take (n1 - 1))):=(by have z:=hu16;rw [e1,eh] at z;exact z)
 have al5:cL (gR K Hu16) (xf.take (n1 - 1)) (lys.take (n1 - 1)):=cL.take (n1 - 1) alf
 clear eu16 hu16 du16 hG
 refine⟨pu16,_,rfl,.inl ⟨bj.of ls5,?_⟩⟩
 intro pu17 gu17
 generalize hG:upd Hu16 pu17 (.tup (xf.take (n1 - 1)))=Hu17
 obtain⟨eu17,hu17,du17⟩:=jk hG gu17 tp.lst hd_
 obtain⟨S0,tp,hd_⟩:=gf eu17 S0 tp hd_
 replace hf:=eu17 _ _ hf
 replace alf:=aM eu17 alf
 replace hP:=eu17 _ _ hP
 replace alP:=aM eu17 alP
 replace ls5:=eu17 _ _ ls5
 replace al5:=aM eu17 al5
 have sq5:=aZ.of (K:=K) hu17
 clear eu17 hu17 du17 hG
 refine⟨_,rfl,_,rfl,_,_,rfl,rfl,_,rfl,lf,_,rfl,bj.of hf,fun pu18 gu18=>?_⟩
 generalize hG:upd Hu17 pu18 (.lst (dY xf (some (((n1:Nat):Int) - 1)) none))=Hu18
 obtain⟨eu18,hu18,du18⟩:=jk hG gu18 tp.lst hd_
 have nu18:=xn gu18 tp.lst
 obtain⟨S0,tp,hd_⟩:=gf eu18 S0 tp hd_
 replace hf:=eu18 _ _ hf
 replace alf:=aM eu18 alf
 replace hP:=eu18 _ _ hP
 replace alP:=aM eu18 alP
 replace al5:=aM eu18 al5
 replace sq5:=tS eu18 sq5
 have ls6:Hu18 pu18=some (.lst (xf.drop (n1 - 1))):=(by have z:=hu18;rw [e1,dq] at z;exact z)
 have al6:cL (gR K Hu18) (xf.drop (n1 - 1)) (lys.drop (n1 - 1)):=cL.drop (n1 - 1) alf
 clear eu18 hu18 du18 hG
 have k3:=dX (f:=(·.1)) lys (n1 - 1)
 have k4:=dX (f:=(·.2)) lys (n1 - 1)
 refine⟨pu18,_,lys.drop (n1 - 1),rfl,bj.of ls6,al6,by rw [List.length_drop];omega,by omega,by omega,fun vo2 yo2 HO2 eO2 lvo2 pmo2 pno2=>?_⟩
 obtain⟨S0,tp,hd_⟩:=gf eO2 S0 tp hd_
 replace hf:=eO2 _ _ hf
 replace alf:=aM eO2 alf
 replace hP:=eO2 _ _ hP
 replace alP:=aM eO2 alP
 replace al5:=aM eO2 al5
 replace sq5:=tS eO2 sq5
 have oko2:dH ws.length yo2:=w6 (fun z hz=>lok z (List.mem_of_mem_drop hz)) (by intro z;have:=congrArg List.length z;rw [List.length_drop,List.length_nil] at this;omega) (by omega) (by omega) pmo2 pno2
 refine⟨iS,fun pu19 gu19=>?_⟩
 generalize hG:upd HO2 pu19 (.tup [vo2])=Hu19
 obtain⟨eu19,hu19,du19⟩:=jk hG gu19 tp.lst hd_
 obtain⟨S0,tp,hd_⟩:=gf eu19 S0 tp hd_
 replace hf:=eu19 _ _ hf
 replace alf:=aM eu19 alf
 replace hP:=eu19 _ _ hP
 replace alP:=aM eu19 alP
 replace al5:=aM eu19 al5
 replace sq5:=tS eu19 sq5
 replace lvo2:=lvo2.mono (bn.same eu19)
 have sq6:=aZ.of (K:=K) hu19
 clear eu19 hu19 du19 hG
 refine⟨pu17,pu19,_,_,rfl,rfl,sq5,sq6,Nat.le_trans (show _≤1000 by first | omega | (simp <;> omega)) dI,fun pu20 Hu20 eu20 cu20=>?_⟩
 obtain⟨S0,tp,hd_⟩:=gf eu20 S0 tp hd_
 replace hf:=eu20 _ _ hf
 replace alf:=aM eu20 alf
 replace hP:=eu20 _ _ hP
 replace alP:=aM eu20 alP
 replace al5:=aM eu20 al5
 replace sq5:=tS eu20 sq5
 replace lvo2:=lvo2.mono (bn.same eu20)
 replace sq6:=tS eu20 sq6
 have pvu20:eQ K Hu20 (.ref pu20) (lys.take (n1 - 1)++[yo2]):=⟨pu20,xf.take (n1 - 1)++[vo2],rfl,cu20,al5.join (.cons lvo2 .nil)⟩
 clear eu20
 refine⟨pu8,([V.ref pu1,V.ref pu7]++[.ref pu14]),_,rfl,rfl,hP,cF (by first | omega | (simp;done) | (simp <;> omega)),?_⟩
 have tuu21:=bn.up (K:=K) hP (([V.ref pu1,V.ref pu7]++[.ref pu14])++[.ref pu20])
 replace S0:bB t₁ H (upd Hu20 pu8 (.lst (([V.ref pu1,V.ref pu7]++[.ref pu14])++[.ref pu20]))):=⟨fun b o nb q=>by rw [aJ (aV q hP0)];exact S0.keep b o nb q,tp0,(tp.upl nu8 off (.lst (([V.ref pu1,V.ref pu7]++[.ref pu14])++[.ref pu20]))).lst⟩
 replace tp:=tp.upl nu8 off (.lst (([V.ref pu1,V.ref pu7]++[.ref pu14])++[.ref pu20]))
 replace hf:upd Hu20 pu8 (.lst (([V.ref pu1,V.ref pu7]++[.ref pu14])++[.ref pu20])) lf=some (.lst xf):=by rw [aJ nfP];exact hf
 replace hP:upd Hu20 pu8 (.lst (([V.ref pu1,V.ref pu7]++[.ref pu14])++[.ref pu20])) pu8=some (.lst (([V.ref pu1,V.ref pu7]++[.ref pu14])++[.ref pu20])):=af
 replace alf:=aU tuu21 alf
 replace alP:=aU tuu21 alP
 replace al5:=aU tuu21 al5
 replace sq5:=tuu21 _ _ sq5
 replace lvo2:=lvo2.mono tuu21
 replace sq6:=tuu21 _ _ sq6
 replace pvu20:=pvu20.mono tuu21
 replace alP:cL (eQ K (upd Hu20 pu8 (.lst (([V.ref pu1,V.ref pu7]++[.ref pu14])++[.ref pu20])))) (([V.ref pu1,V.ref pu7]++[.ref pu14])++[.ref pu20]) (([lys,[(List.range 24,List.range ws.length)]]++[[yo]++lys.drop n1])++[lys.take (n1 - 1)++[yo2]]):=alP.snoc pvu20
 replace okP:=ze okP (uX (oP (a:=lys.take (n1 - 1)) (b:=[yo2]) (fun z hz=>lok z (List.mem_of_mem_take hz)) (kL oko2) (by rw [List.length_take];show _+1≤26;omega)) wG)
 have hd_:=tp.lst
 clear pvu20
 generalize upd Hu20 pu8 (.lst (([V.ref pu1,V.ref pu7]++[.ref pu14])++[.ref pu20]))=Hu21 at S0 tp hd_ hf alf hP alP al5 sq5 lvo2 sq6 ⊢
 refine kC4 _ _ ?_
 refine⟨24,rfl,by decide,by decide,fun D hD=>cH gT (fun i=>!(lys.flatMap (·.1)).contains i) (fun i=>V.int (i:Nat)) hD (by decide) (fun i x H9 hi s9 hx R E kR kE=>?_) fun HS eS hS=>?_⟩
 ·subst hx
  have t9:=bn.same (K:=K) s9
  refine⟨ji.set rfl,_,rfl,_,rfl,lf,_,lys,rfl,bj.of (s9 _ _ hf),alf.mono (fun _ _ q=>q.mono t9),by omega,by omega,by omega,fun vo yo HO eO lvo pmo pno=>?_⟩
  obtain⟨pL,a,b,rfl,hpL,ha,hb⟩:=lvo
  refine⟨pL,_,_,_,rfl,rfl,hpL,rfl,a,_,rfl,.inr ha,rfl,qL _,_,rfl,?_⟩
  rw [Int.zero_add]
  have e:sF (.int (i:Nat)) (au yo.1)=(lys.flatMap (·.1)).contains i:=by
   rw [show sF (.int (i:Nat)) (au yo.1)=yo.1.contains i from kb i yo.1]
   rw [Bool.eq_iff_iff,List.contains_iff_mem,List.contains_iff_mem]
   exact pmo.mem_iff
  cases cz:(lys.flatMap (·.1)).contains i with
  | true=>exact xH (by show (!sF (.int (i:Nat)) (au yo.1))=false;rw [e,cz];rfl) (kE (by rw [cz];rfl) _ eO)
  | false=>exact tW (by show (!sF (.int (i:Nat)) (au yo.1))=true;rw [e,cz];rfl) ⟨_,rfl,kR (by rw [cz];rfl) _ eO⟩
 have nDs:=xn hD tp.lst
 have nDP:=(aV hP hD).symm
 obtain⟨S0,tp,hd_⟩:=gf eS S0 tp hd_
 replace hf:=eS _ _ hf
 replace alf:=aM eS alf
 replace hP:=eS _ _ hP
 replace alP:=aM eS alP
 replace hS:HS D=some (.lst (au ((List.range 24).filter fun i=>!(lys.flatMap (·.1)).contains i))):=hS
 have sl1:((List.range 24).filter fun i=>!(lys.flatMap (·.1)).contains i).length≤24:=List.length_filter_le _ _
 have sl2:∀ t∈(List.range 24).filter fun i=>!(lys.flatMap (·.1)).contains i,t < 24:=fun t ht=>List.mem_range.mp (List.mem_filter.mp ht).1
 generalize ((List.range 24).filter fun i=>!(lys.flatMap (·.1)).contains i)=sp at hS sl1 sl2
 have lsp:(au sp).length=sp.length:=List.length_map _
 refine⟨_,rfl,D,_,rfl,.inl (bj.of hS),_,_,rfl,rfl,_,rfl,sx (fun cs=>?_) (fun cs=>⟨_,rfl,k pu8 (([V.ref pu1,V.ref pu7]++[.ref pu14])++[.ref pu20]) (([lys,[(List.range 24,List.range ws.length)]]++[[yo]++lys.drop n1])++[lys.take (n1 - 1)++[yo2]]) _ S0 tp hP alP okP (by simp)⟩)⟩
 have cs':=of_decide_eq_true cs
 rw [lsp] at cs'
 intro R6 kC6
 refine⟨_,rfl,.inl ⟨rfl,_,bj.of hP⟩,_,rfl,lf,_,rfl,.inl ⟨bj.of hf,?_⟩⟩
 intro pu22 gu22
 generalize hG:upd HS pu22 (.tup xf)=Hu22
 obtain⟨eu22,hu22,du22⟩:=jk hG gu22 tp.lst hd_
 obtain⟨S0,tp,hd_⟩:=gf eu22 S0 tp hd_
 replace hf:=eu22 _ _ hf
 replace alf:=aM eu22 alf
 replace hP:=eu22 _ _ hP
 replace alP:=aM eu22 alP
 replace hS:=eu22 _ _ hS
 have sq7:=aZ.of (K:=K) hu22
 clear eu22 hu22 du22 hG
 refine⟨_,rfl,D,_,rfl,.inl ⟨bj.of hS,?_⟩⟩
 intro pu23 gu23
 generalize hG:upd Hu22 pu23 (.tup (au sp))=Hu23
 obtain⟨eu23,hu23,du23⟩:=jk hG gu23 tp.lst hd_
 obtain⟨S0,tp,hd_⟩:=gf eu23 S0 tp hd_
 replace hf:=eu23 _ _ hf
 replace alf:=aM eu23 alf
 replace hP:=eu23 _ _ hP
 replace alP:=aM eu23 alP
 replace hS:=eu23 _ _ hS
 replace sq7:=tS eu23 sq7
 have sq8:=aZ.of (K:=K) hu23
 clear eu23 hu23 du23 hG
 refine⟨G2,fun pu24 gu24=>?_⟩
 generalize hG:upd Hu23 pu24 (.tup [])=Hu24
 obtain⟨eu24,hu24,du24⟩:=jk hG gu24 tp.lst hd_
 obtain⟨S0,tp,hd_⟩:=gf eu24 S0 tp hd_
 replace hf:=eu24 _ _ hf
 replace alf:=aM eu24 alf
 replace hP:=eu24 _ _ hP
 replace alP:=aM eu24 alP
 replace hS:=eu24 _ _ hS
 replace sq7:=tS eu24 sq7
 replace sq8:=tS eu24 sq8
 have sq9:aZ K Hu24 pu24 (au []):=aZ.of hu24
 clear eu24 hu24 du24 hG
 refine⟨dE,fun pu25 gu25=>?_⟩
 generalize hG:upd Hu24 pu25 (.tup [V.ref pu23,V.ref pu24])=Hu25
 obtain⟨eu25,hu25,du25⟩:=jk hG gu25 tp.lst hd_
 obtain⟨S0,tp,hd_⟩:=gf eu25 S0 tp hd_
 replace hf:=eu25 _ _ hf
 replace alf:=aM eu25 alf
 replace hP:=eu25 _ _ hP
 replace alP:=aM eu25 alP
 replace hS:=eu25 _ _ hS
 replace sq7:=tS eu25 sq7
 replace sq8:=tS eu25 sq8
 replace sq9:=tS eu25 sq9
 have lv8:gR K Hu25 (.ref pu25) (sp,[]):=⟨pu25,pu23,pu24,rfl,aZ.of hu25,sq8,sq9⟩
 clear eu25 hu25 du25 hG
 refine⟨iS,fun pu26 gu26=>?_⟩
 generalize hG:upd Hu25 pu26 (.tup [V.ref pu25])=Hu26
 obtain⟨eu26,hu26,du26⟩:=jk hG gu26 tp.lst hd_
 obtain⟨S0,tp,hd_⟩:=gf eu26 S0 tp hd_
 replace hf:=eu26 _ _ hf
 replace alf:=aM eu26 alf
 replace hP:=eu26 _ _ hP
 replace alP:=aM eu26 alP
 replace hS:=eu26 _ _ hS
 replace sq7:=tS eu26 sq7
 replace lv8:=lv8.mono (bn.same eu26)
 have sqa:=aZ.of (K:=K) hu26
 clear eu26 hu26 du26 hG
 refine⟨pu22,pu26,_,_,rfl,rfl,sq7,sqa,Nat.le_trans (show _≤1000 by first | omega | (simp <;> omega)) dI,fun pu27 Hu27 eu27 cu27=>?_⟩
 obtain⟨S0,tp,hd_⟩:=gf eu27 S0 tp hd_
 replace hf:=eu27 _ _ hf
 replace alf:=aM eu27 alf
 replace hP:=eu27 _ _ hP
 replace alP:=aM eu27 alP
 replace hS:=eu27 _ _ hS
 replace sq7:=tS eu27 sq7
 replace lv8:=lv8.mono (bn.same eu27)
 replace sqa:=tS eu27 sqa
 have pvu27:eQ K Hu27 (.ref pu27) (lys++[(sp,[])]):=⟨pu27,xf++[V.ref pu25],rfl,cu27,alf.join (.cons lv8 .nil)⟩
 clear eu27
 refine⟨pu8,(([V.ref pu1,V.ref pu7]++[.ref pu14])++[.ref pu20]),_,rfl,rfl,hP,cF (by first | omega | (simp;done) | (simp <;> omega)),?_⟩
 have tuu28:=bn.up (K:=K) hP ((([V.ref pu1,V.ref pu7]++[.ref pu14])++[.ref pu20])++[.ref pu27])
 replace S0:bB t₁ H (upd Hu27 pu8 (.lst ((([V.ref pu1,V.ref pu7]++[.ref pu14])++[.ref pu20])++[.ref pu27]))):=⟨fun b o nb q=>by rw [aJ (aV q hP0)];exact S0.keep b o nb q,tp0,(tp.upl nu8 off (.lst ((([V.ref pu1,V.ref pu7]++[.ref pu14])++[.ref pu20])++[.ref pu27]))).lst⟩
 replace tp:=tp.upl nu8 off (.lst ((([V.ref pu1,V.ref pu7]++[.ref pu14])++[.ref pu20])++[.ref pu27]))
 replace hf:upd Hu27 pu8 (.lst ((([V.ref pu1,V.ref pu7]++[.ref pu14])++[.ref pu20])++[.ref pu27])) lf=some (.lst xf):=by rw [aJ nfP];exact hf
 replace hP:upd Hu27 pu8 (.lst ((([V.ref pu1,V.ref pu7]++[.ref pu14])++[.ref pu20])++[.ref pu27])) pu8=some (.lst ((([V.ref pu1,V.ref pu7]++[.ref pu14])++[.ref pu20])++[.ref pu27])):=af
 replace alf:=aU tuu28 alf
 replace alP:=aU tuu28 alP
 replace hS:upd Hu27 pu8 (.lst ((([V.ref pu1,V.ref pu7]++[.ref pu14])++[.ref pu20])++[.ref pu27])) D=some (.lst (au sp)):=by rw [aJ nDP];exact hS
 replace sq7:=tuu28 _ _ sq7
 replace lv8:=lv8.mono tuu28
 replace sqa:=tuu28 _ _ sqa
 replace pvu27:=pvu27.mono tuu28
 replace alP:cL (eQ K (upd Hu27 pu8 (.lst ((([V.ref pu1,V.ref pu7]++[.ref pu14])++[.ref pu20])++[.ref pu27])))) ((([V.ref pu1,V.ref pu7]++[.ref pu14])++[.ref pu20])++[.ref pu27]) ((([lys,[(List.range 24,List.range ws.length)]]++[[yo]++lys.drop n1])++[lys.take (n1 - 1)++[yo2]])++[lys++[(sp,[])]]):=alP.snoc pvu27
 replace okP:=ze okP (uX (oP (a:=lys) (b:=[(sp,[])]) lok (kL (y:=(sp,[])) ⟨by show 0 < sp.length;omega,by show sp.length≤25;omega,sl2,(fun i hi=>by cases hi),Nat.zero_le _⟩) (by show _+1≤26;omega)) wG)
 have hd_:=tp.lst
 clear pvu27
 generalize upd Hu27 pu8 (.lst ((([V.ref pu1,V.ref pu7]++[.ref pu14])++[.ref pu20])++[.ref pu27]))=Hu28 at S0 tp hd_ hf alf hP alP hS sq7 lv8 sqa ⊢
 obtain⟨xl,yl,hlast,hyl,lvl,_⟩:=alf.last (n:=lys.length - 1) (by omega)
 obtain⟨s0,hs0⟩:∃ s0,sp[0]?=some s0:=⟨_,List.getElem?_eq_getElem (show 0 < sp.length by omega)⟩
 have ml:=lok yl (List.mem_of_getElem? hyl)
 refine kC6 _ _ ?_
 refine⟨_,rfl,.inl ⟨rfl,_,bj.of hP⟩,_,rfl,_,rfl,_,rfl,lf,_,rfl,bj.of hf,fun pu29 gu29=>?_⟩
 generalize hG:upd Hu28 pu29 (.lst (dY xf none (some (-1))))=Hu29
 obtain⟨eu29,hu29,du29⟩:=jk hG gu29 tp.lst hd_
 have nu29:=xn gu29 tp.lst
 obtain⟨S0,tp,hd_⟩:=gf eu29 S0 tp hd_
 replace hf:=eu29 _ _ hf
 replace alf:=aM eu29 alf
 replace hP:=eu29 _ _ hP
 replace alP:=aM eu29 alP
 replace hS:=eu29 _ _ hS
 replace lvl:=lvl.mono (bn.same eu29)
 have ls7:Hu29 pu29=some (.lst (xf.take (xf.length - 1))):=(by have z:=hu29;rw [Ae] at z;exact z)
 have al7:cL (gR K Hu29) (xf.take (xf.length - 1)) (lys.take (lys.length - 1)):=(by rw [lxf];exact cL.take (lys.length - 1) alf)
 clear eu29 hu29 du29 hG
 refine⟨pu29,_,rfl,.inl ⟨bj.of ls7,?_⟩⟩
 intro pu30 gu30
 generalize hG:upd Hu29 pu30 (.tup (xf.take (xf.length - 1)))=Hu30
 obtain⟨eu30,hu30,du30⟩:=jk hG gu30 tp.lst hd_
 obtain⟨S0,tp,hd_⟩:=gf eu30 S0 tp hd_
 replace hf:=eu30 _ _ hf
 replace alf:=aM eu30 alf
 replace hP:=eu30 _ _ hP
 replace alP:=aM eu30 alP
 replace hS:=eu30 _ _ hS
 replace lvl:=lvl.mono (bn.same eu30)
 replace ls7:=eu30 _ _ ls7
 replace al7:=aM eu30 al7
 have sqb:=aZ.of (K:=K) hu30
 clear eu30 hu30 du30 hG
 obtain⟨pL,aL,bL,rfl,hpL,haL,hbL⟩:=lvl
 refine⟨_,rfl,_,rfl,lf,_,_,_,rfl,rfl,bj.of hf,hlast,pL,_,_,_,rfl,rfl,hpL,rfl,_,rfl,D,_,_,_,rfl,rfl,bj.of hS,(bv (j:=0) (show (au sp)[0]?=some (.int (s0:Nat)) by unfold au;rw [List.getElem?_map,hs0];rfl)),iS,fun pu31 gu31=>?_⟩
 generalize hG:upd Hu30 pu31 (.tup [V.int (s0:Nat)])=Hu31
 obtain⟨eu31,hu31,du31⟩:=jk hG gu31 tp.lst hd_
 obtain⟨S0,tp,hd_⟩:=gf eu31 S0 tp hd_
 replace hf:=eu31 _ _ hf
 replace alf:=aM eu31 alf
 replace hP:=eu31 _ _ hP
 replace alP:=aM eu31 alP
 replace hS:=eu31 _ _ hS
 replace al7:=aM eu31 al7
 replace sqb:=tS eu31 sqb
 replace hpL:=tS eu31 hpL
 replace haL:=tS eu31 haL
 replace hbL:=tS eu31 hbL
 have sqc:aZ K Hu31 pu31 (au [s0]):=aZ.of hu31
 clear eu31 hu31 du31 hG
 refine⟨aL,pu31,_,_,rfl,rfl,haL,sqc,Nat.le_trans (show _≤1000 by unfold au;rw [List.length_map];have:=ml.few;show _+1≤1000;omega) dI,fun pu32 Hu32 eu32 cu32=>?_⟩
 obtain⟨S0,tp,hd_⟩:=gf eu32 S0 tp hd_
 replace hf:=eu32 _ _ hf
 replace alf:=aM eu32 alf
 replace hP:=eu32 _ _ hP
 replace alP:=aM eu32 alP
 replace hS:=eu32 _ _ hS
 replace al7:=aM eu32 al7
 replace sqb:=tS eu32 sqb
 replace hpL:=tS eu32 hpL
 replace haL:=tS eu32 haL
 replace hbL:=tS eu32 hbL
 replace sqc:=tS eu32 sqc
 have sqd:aZ K Hu32 pu32 (au (yl.1++[s0])):=(by rw [← eI];exact cu32)
 clear eu32
 refine⟨pu32,(yl.1++[s0]).map (fun n:Nat=>(n:Int)),rfl,.inr (by rw [← gu];exact sqd),by rw [List.length_map,List.length_append];have:=ml.few;show _+1 < 64;omega,fun ls ms pm pw hls=>?_⟩
 obtain⟨m1,em1,pm1⟩:=kO pm
 rw [em1]
 revert hls
 revert ls
 intro pu33 gu33
 generalize hG:upd Hu32 pu33 (.lst (au m1))=Hu33
 obtain⟨eu33,hu33,du33⟩:=jk hG gu33 tp.lst hd_
 have nu33:=xn gu33 tp.lst
 obtain⟨S0,tp,hd_⟩:=gf eu33 S0 tp hd_
 replace hf:=eu33 _ _ hf
 replace alf:=aM eu33 alf
 replace hP:=eu33 _ _ hP
 replace alP:=aM eu33 alP
 replace hS:=eu33 _ _ hS
 replace al7:=aM eu33 al7
 replace sqb:=tS eu33 sqb
 replace hpL:=tS eu33 hpL
 replace haL:=tS eu33 haL
 replace hbL:=tS eu33 hbL
 replace sqd:=tS eu33 sqd
 have lsm:=hu33
 clear eu33 hu33 du33 hG
 refine⟨pu33,_,rfl,.inl ⟨bj.of lsm,?_⟩⟩
 intro pu34 gu34
 generalize hG:upd Hu33 pu34 (.tup (au m1))=Hu34
 obtain⟨eu34,hu34,du34⟩:=jk hG gu34 tp.lst hd_
 obtain⟨S0,tp,hd_⟩:=gf eu34 S0 tp hd_
 replace hf:=eu34 _ _ hf
 replace alf:=aM eu34 alf
 replace hP:=eu34 _ _ hP
 replace alP:=aM eu34 alP
 replace hS:=eu34 _ _ hS
 replace al7:=aM eu34 al7
 replace sqb:=tS eu34 sqb
 replace hpL:=tS eu34 hpL
 replace haL:=tS eu34 haL
 replace hbL:=tS eu34 hbL
 replace lsm:=eu34 _ _ lsm
 have sqe:=aZ.of (K:=K) hu34
 clear eu34 hu34 du34 hG
 refine⟨_,rfl,_,rfl,lf,_,_,_,rfl,rfl,bj.of hf,hlast,pL,_,_,_,rfl,rfl,hpL,rfl,dE,fun pu35 gu35=>?_⟩
 generalize hG:upd Hu34 pu35 (.tup [V.ref pu34,V.ref bL])=Hu35
 obtain⟨eu35,hu35,du35⟩:=jk hG gu35 tp.lst hd_
 obtain⟨S0,tp,hd_⟩:=gf eu35 S0 tp hd_
 replace hf:=eu35 _ _ hf
 replace alf:=aM eu35 alf
 replace hP:=eu35 _ _ hP
 replace alP:=aM eu35 alP
 replace hS:=eu35 _ _ hS
 replace al7:=aM eu35 al7
 replace sqb:=tS eu35 sqb
 replace hpL:=tS eu35 hpL
 replace haL:=tS eu35 haL
 replace hbL:=tS eu35 hbL
 replace sqe:=tS eu35 sqe
 have lvm:gR K Hu35 (.ref pu35) (m1,yl.2):=⟨pu35,pu34,bL,rfl,aZ.of hu35,sqe,hbL⟩
 clear eu35 hu35 du35 hG
 refine⟨iS,fun pu36 gu36=>?_⟩
 generalize hG:upd Hu35 pu36 (.tup [V.ref pu35])=Hu36
 obtain⟨eu36,hu36,du36⟩:=jk hG gu36 tp.lst hd_
 obtain⟨S0,tp,hd_⟩:=gf eu36 S0 tp hd_
 replace hf:=eu36 _ _ hf
 replace alf:=aM eu36 alf
 replace hP:=eu36 _ _ hP
 replace alP:=aM eu36 alP
 replace hS:=eu36 _ _ hS
 replace al7:=aM eu36 al7
 replace sqb:=tS eu36 sqb
 replace lvm:=lvm.mono (bn.same eu36)
 have sqf:=aZ.of (K:=K) hu36
 clear eu36 hu36 du36 hG
 have fl:yl.1.length≤24:=by
  obtain⟨i,hi,e⟩:=List.mem_iff_getElem.mp (List.mem_of_getElem? hyl)
  have a:=dX (f:=(·.1)) lys i
  have b:lys.drop i=yl :: lys.drop (i+1):=by rw [← e];exact List.drop_eq_getElem_cons hi
  rw [b,List.flatMap_cons,List.length_append] at a
  omega
 have okl:dH ws.length (m1,yl.2):=by
  refine⟨?_,?_,fun t ht=>?_,ml.num,ml.len⟩
  ·show 0 < m1.length
   rw [pm1.length_eq,List.length_append]
   exact Nat.succ_pos _
  ·show m1.length≤25
   rw [pm1.length_eq,List.length_append]
   show _+1≤25
   omega
  ·rcases List.mem_append.mp (pm1.mem_iff.mp ht) with h | h
   ·exact ml.lt t h
   ·rw [List.mem_singleton.mp h]
    exact sl2 s0 (List.mem_of_getElem? hs0)
 refine⟨pu30,pu36,_,_,rfl,rfl,sqb,sqf,Nat.le_trans (show _≤1000 by first | omega | (simp <;> omega)) dI,fun pu37 Hu37 eu37 cu37=>?_⟩
 obtain⟨S0,tp,hd_⟩:=gf eu37 S0 tp hd_
 replace hf:=eu37 _ _ hf
 replace alf:=aM eu37 alf
 replace hP:=eu37 _ _ hP
 replace alP:=aM eu37 alP
 replace hS:=eu37 _ _ hS
 replace al7:=aM eu37 al7
 replace sqb:=tS eu37 sqb
 replace lvm:=lvm.mono (bn.same eu37)
 replace sqf:=tS eu37 sqf
 have pvu37:eQ K Hu37 (.ref pu37) (lys.take (lys.length - 1)++[(m1,yl.2)]):=⟨pu37,xf.take (xf.length - 1)++[V.ref pu35],rfl,cu37,al7.join (.cons lvm .nil)⟩
 clear eu37
 refine⟨pu8,((([V.ref pu1,V.ref pu7]++[.ref pu14])++[.ref pu20])++[.ref pu27]),_,rfl,rfl,hP,cF (by first | omega | (simp;done) | (simp <;> omega)),?_⟩
 have tuu38:=bn.up (K:=K) hP (((([V.ref pu1,V.ref pu7]++[.ref pu14])++[.ref pu20])++[.ref pu27])++[.ref pu37])
 replace S0:bB t₁ H (upd Hu37 pu8 (.lst (((([V.ref pu1,V.ref pu7]++[.ref pu14])++[.ref pu20])++[.ref pu27])++[.ref pu37]))):=⟨fun b o nb q=>by rw [aJ (aV q hP0)];exact S0.keep b o nb q,tp0,(tp.upl nu8 off (.lst (((([V.ref pu1,V.ref pu7]++[.ref pu14])++[.ref pu20])++[.ref pu27])++[.ref pu37]))).lst⟩
 replace tp:=tp.upl nu8 off (.lst (((([V.ref pu1,V.ref pu7]++[.ref pu14])++[.ref pu20])++[.ref pu27])++[.ref pu37]))
 replace hf:upd Hu37 pu8 (.lst (((([V.ref pu1,V.ref pu7]++[.ref pu14])++[.ref pu20])++[.ref pu27])++[.ref pu37])) lf=some (.lst xf):=by rw [aJ nfP];exact hf
 replace hP:upd Hu37 pu8 (.lst (((([V.ref pu1,V.ref pu7]++[.ref pu14])++[.ref pu20])++[.ref pu27])++[.ref pu37])) pu8=some (.lst (((([V.ref pu1,V.ref pu7]++[.ref pu14])++[.ref pu20])++[.ref pu27])++[.ref pu37])):=af
 replace alf:=aU tuu38 alf
 replace alP:=aU tuu38 alP
 replace hS:upd Hu37 pu8 (.lst (((([V.ref pu1,V.ref pu7]++[.ref pu14])++[.ref pu20])++[.ref pu27])++[.ref pu37])) D=some (.lst (au sp)):=by rw [aJ nDP];exact hS
 replace al7:=aU tuu38 al7
 replace sqb:=tuu38 _ _ sqb
 replace lvm:=lvm.mono tuu38
 replace sqf:=tuu38 _ _ sqf
 replace pvu37:=pvu37.mono tuu38
 replace alP:cL (eQ K (upd Hu37 pu8 (.lst (((([V.ref pu1,V.ref pu7]++[.ref pu14])++[.ref pu20])++[.ref pu27])++[.ref pu37])))) (((([V.ref pu1,V.ref pu7]++[.ref pu14])++[.ref pu20])++[.ref pu27])++[.ref pu37]) (((([lys,[(List.range 24,List.range ws.length)]]++[[yo]++lys.drop n1])++[lys.take (n1 - 1)++[yo2]])++[lys++[(sp,[])]])++[lys.take (lys.length - 1)++[(m1,yl.2)]]):=alP.snoc pvu37
 replace okP:=ze okP (uX (oP (a:=lys.take (lys.length - 1)) (b:=[(m1,yl.2)]) (fun z hz=>lok z (List.mem_of_mem_take hz)) (kL okl) (by rw [List.length_take];show _+1≤26;omega)) wG)
 have hd_:=tp.lst
 clear pvu37
 generalize upd Hu37 pu8 (.lst (((([V.ref pu1,V.ref pu7]++[.ref pu14])++[.ref pu20])++[.ref pu27])++[.ref pu37]))=Hu38 at S0 tp hd_ hf alf hP alP hS al7 sqb lvm sqf ⊢
 exact⟨_,rfl,k pu8 (((([V.ref pu1,V.ref pu7]++[.ref pu14])++[.ref pu20])++[.ref pu27])++[.ref pu37]) (((([lys,[(List.range 24,List.range ws.length)]]++[[yo]++lys.drop n1])++[lys.take (n1 - 1)++[yo2]])++[lys++[(sp,[])]])++[lys.take (lys.length - 1)++[(m1,yl.2)]]) _ S0 tp hP alP okP (by simp)⟩
theorem Cw (T:eR K mg t):nY P w K mg base d9 1 t.a_Q20 t.d_Q20 ["_law_e"] (ou K t.c_Q23):=by
 refine T.F_Q20.okM v8 (fun vs H Q E h=>?_) (fun cdv A outer s H vs Q E hr h=>?_)
 ·obtain⟨_,_,_,rfl,_⟩:=h;rfl
 obtain⟨x,dd,fs,rfl,ex,ed,k⟩:=h
 refine dU.ok (ag (cV 1 v8.nd (bD (aa (aj (jc (K:=K) rfl) (by rfl) T.z_isinstance boot_isinstance (aa (qv 0) (aa (dN (v:=.ref t.c_Q23) rfl T.m_Q23 rfl) ad ac) ac)) (aa (aj (jc (K:=K) rfl) (by rfl) T.z_isinstance boot_isinstance (aa (qv 0) (aa (dN (v:=.ref t.c_Q24) rfl T.m_Q24 rfl) ad ac) ac)) (aa (aj (jc (K:=K) rfl) (by rfl) T.z_isinstance boot_isinstance (aa (qv 0) (aa (ba (v:=V.ty "ValueError") rfl T.z_ValueError PyProof.Rows.Boot.ValueError rfl) ad ac) ac)) ad ao) ao) ao)))
   (ah (aC (aB fV (qv 1) (bD (aa (aj (jc (K:=K) rfl) (by rfl) T.z_isinstance boot_isinstance (aa (qv 0) (aa (az (aa (dN (v:=.ref t.c_Q38) rfl T.m_Q38 rfl) (aa (dN (v:=.ref t.c_Q44) rfl T.m_Q44 rfl) (aa (dN (v:=.ref t.c_Q45) rfl T.m_Q45 rfl) (aa (dN (v:=.ref t.c_Q39) rfl T.m_Q39 rfl) (aa (dN (v:=.ref t.c_Q46) rfl T.m_Q46 rfl) (aa (dN (v:=.ref t.c_Q40) rfl T.m_Q40 rfl) (aa (dN (v:=.ref t.c_Q41) rfl T.m_Q41 rfl) ad ac) ac) ac) ac) ac) ac) ac)) ad aF) ac)) ad ao)))))) ?_
 try dsimp only [Cx.nox,Cx.wish,bP]
 have cl:=T.X_Q23.cl
 have gx:=T.g_Q23
 refine⟨_,rfl,x,_,dd,_,_,_,true,rfl,ex,ed,cl,gx,.inr (.inl ⟨_,rfl,T.y_self⟩),_,rfl,x,_,dd,_,_,_,true,rfl,ex,ed,cl,gx,.inr (.inl ⟨_,rfl,T.y_base⟩),_,rfl,x,_,dd,_,_,_,true,rfl,ex,ed,cl,gx,.inl ⟨_,rfl,T.y_val⟩,Du,fun l1 h1=>?_⟩
 have s1:=ak h1 (.lst [.bl true,.bl true,.bl true])
 have hl1:upd H l1 (.lst [.bl true,.bl true,.bl true]) l1=some (.lst [.bl true,.bl true,.bl true]):=af
 generalize upd H l1 (.lst [.bl true,.bl true,.bl true])=H1 at s1 hl1 ⊢
 refine⟨_,rfl,_,rfl,G1,fun p2 g2=>?_⟩
 have s2:=ak g2 (.tup [.ref t.c_Q38,.ref t.c_Q44,.ref t.c_Q45,.ref t.c_Q39,.ref t.c_Q46,.ref t.c_Q40,.ref t.c_Q41])
 have s12:=s1.trans s2
 refine⟨x,_,dd,_,_,_,false,rfl,s12 _ _ ex,s12 _ _ ed,cl,gx,.inr (.inr ⟨p2,[t.c_Q38,t.c_Q44,t.c_Q45,t.c_Q39,t.c_Q46,t.c_Q40,t.c_Q41],rfl,af,T.y_not⟩),iS,fun l3 h3=>?_⟩
 have s3:=ak h3 (.lst [.bl false])
 refine⟨l1,l3,_,_,rfl,rfl,s3 _ _ (s2 _ _ hl1),af,Aq,fun l4 h4=>?_⟩
 exact k l4 _ ((s12.trans s3).trans (ak h4 _)) af
theorem Et (T:eR K mg t):bK P w K mg base d9 2 t.a_Q7 t.d_Q7 ["_law_tape_here", "_law_works_here", "_law_pair"] (jp K):=by
 refine T.F_Q7.ok eX (fun vs H Q E h=>?_) (fun cdv A outer s H vs Q E hr h=>?_)
 ·obtain⟨_,_,_,_,_,_,rfl,_⟩:=h;rfl
 obtain⟨t₁,s₁,v,w_,ws,y,rfl,tp,wv,w9,ly,lok,k⟩:=h
 refine dU.ok (ag (jv (qv 2) (jw rfl (cT (aG (i:=3) eX.nd rfl (by first | exact Or.inl rfl | exact Or.inr rfl)) (cT (aG (i:=4) eX.nd rfl (by first | exact Or.inl rfl | exact Or.inr rfl)) gY))))
   (ag (cV 5 eX.nd (dA (cP T) hr T.m_Q28 T.F_Q28.kp T.b_Q28 (aa (qv 0) (aa (aj ar (by rfl) T.z_len boot_len (aa (qv 3) ad ac)) ad ao) ac)))
   (ag (cV 6 eX.nd (dA (cP T) hr T.m_Q28 T.F_Q28.kp T.b_Q28 (aa (qv 0) (aa (aB cI (aj ar (by rfl) T.z_len boot_len (aa (qv 4) ad ac)) ae) ad aX) ac)))
   (ag (cV 7 eX.nd (dA (cP T) hr T.m_Q28 T.F_Q28.kp T.b_Q28 (aa (qv 0) (aa ae ad ap) ac)))
   (aY (eZ (cV 8 eX.nd (bD (aa (az (aa (aB bQ (bE cN (qv 3) bT (bM (qv 5))) (bE cN (qv 3) (bM (aB cI (qv 5) ae)) bT)) (aa (qv 4) ad ac) aX)) (aa (az (aa (bc br (by rfl) T.z_tuple boot_tuple (aa (aj (fz (w:=w) rfl rfl) (by rfl) T.z_sorted boot_sorted (aa (bc (iP (w:=w) rfl rfl) (by rfl) T.z_set jD (aa (aB bQ (qv 3) (az (aa (qv 7) ad ac))) ad aX)) ad ao)) ad ao)) (aa (qv 4) ad ac) ao)) ad aF) aF))))
   (aY (eZ (cV 8 eX.nd (aB fV (qv 8) (bD (aa (az (aa (bc dQ (by rfl) T.z_list boot_list (aa (qv 3) ad ac)) (aa (qv 4) ad ac) ao)) ad aF)))))
   (aY (eZ (cV 8 eX.nd (aB fV (qv 8) (bD (aa (az (aa (qv 3) (aa (aB bQ (bE cN (qv 4) bT (bM (qv 6))) (bE cN (qv 4) (bM (aB cI (qv 6) ae)) bT)) ad aX) ac)) (aa (az (aa (qv 3) (aa (bc dQ (by rfl) T.z_list boot_list (aa (qv 4) ad ac)) ad ao) ac)) (aa (bD (aa (qv 3) (aa (qv 4) ad ac) ac)) (aa (az (aa (qv 3) ad ac)) ad aF) gg) aF) aF)))))
   (aY (eZ (cV 8 eX.nd (aB fV (qv 8) (bD (aa (az (aa (qv 3) (aa (bc br (by rfl) T.z_tuple boot_tuple (aa (aj (fz (w:=w) rfl rfl) (by rfl) T.z_sorted boot_sorted (aa (bc (iP (w:=w) rfl rfl) (by rfl) T.z_set jD (aa (aB bQ (qv 4) (az (aa (dA (cP T) hr T.m_Q28 T.F_Q28.kp T.b_Q28 (aa (qv 0) (aa (aB cI (aj ar (by rfl) T.z_len boot_len (aa (qv 1) ad ac)) ae) ad aX) ac)) ad ao))) ad aX)) ad ao)) ad ao)) ad ao) ac)) ad aF)))))
   (aY (eZ (cV 8 eX.nd (aB fV (qv 8) (bD (aa (az (aa (wk (qv 3)) (aa (qv 4) ad ac) aD)) ad aF)))))
   (aY (eZ (cV 8 eX.nd (aB fV (qv 8) (bD (aa (az (aa (aB bQ (aB bQ (bE cN (qv 3) bT (bM (qv 5))) (az (aa cW ad ap))) (bE cN (qv 3) (bM (aB cI (qv 5) ae)) bT)) (aa (qv 4) ad ac) aX)) (aa (az (aa (aB bQ (qv 3) (az (aa ae ad ap))) (aa (qv 4) ad ac) aX)) ad aF) aF)))))
   (aY (eZ (cV 8 eX.nd (aB fV (qv 8) (bD (aa (az (aa (aB bQ (az (aa (fH dJ ae) ad eW)) (qv 3)) (aa (qv 4) ad ac) aX)) ad aF)))))
   (aY (eZ (cV 8 eX.nd (aB fV (qv 8) (bD (aa (az (aa (az ad) (aa (qv 4) ad ac) aF)) (aa (az (aa (qv 3) (aa (qv 4) (aa (az ad) ad aF) ac) ac)) (aa (az (aa (qv 3) (aa (aB bQ (qv 4) (az (aa (fH dJ ae) ad eW))) ad aX) ac)) (aa (az (aa (qv 3) (aa (aB bQ (az (aa cW ad ap)) (bE cN (qv 4) (bM ae) bT)) ad aX) ac)) ad aF) aF) aF) aF)))))
   (ah (aC (bX bH (qv 8) (dA (cP T) hr T.m_Q28 T.F_Q28.kp T.b_Q28 (aa (qv 0) (aa ae ad ap) ac))))))))))))))))) ?_
 try dsimp only [Cx.nox,Cx.wish,bP]
 obtain⟨pw,xw,rfl,hW,alw⟩:=wv
 have lxw:=alw.len
 obtain⟨pq,pt,pn,rfl,hpq,hT,hN⟩:=ly
 obtain⟨T1,T2⟩:=y
 have few:T1.length≤25:=lok.few
 have pos:0 < T1.length:=lok.pos
 have lT1:∀ n∈T1,n < 24:=lok.lt
 have few2:T2.length≤9:=Nat.le_trans lok.len w9
 have lT2:∀ n∈T2,n < 24:=fun n hn=>by have:n < ws.length:=lok.num n hn;omega
 have fT:Fl K 25 (au T1):=.nat few lT1
 have fN:Fl K 9 (au T2):=.nat few2 lT2
 have lxT:(au T1).length=T1.length:=List.length_map _
 have lxN:(au T2).length=T2.length:=List.length_map _
 obtain⟨xT,exT⟩:∃ x,au T1=x:=⟨_,rfl⟩
 obtain⟨xN,exN⟩:∃ x,au T2=x:=⟨_,rfl⟩
 have B:Bg K H H t₁ s₁ pw pt pn xw xT xN:=⟨⟨fun _ _ _ q=>q,tp.lst,tp.lst⟩,tp,hW,exT ▸ hT,exN ▸ hN⟩
 have M:Mn K H t₁ []:=Mn.nil
 rw [exT] at fT lxT
 rw [exN] at fN lxN
 refine⟨_,rfl,pq,_,rfl,hpq,rfl,_,_,rfl,_,_,rfl,rfl,_,rfl,_,rfl,pt,_,rfl,.inr B.hT,t₁,s₁,_,rfl,B.T,by omega,by omega,fun r1 z1 a1 b1 T1=>?_⟩
 obtain⟨at_,rfl⟩:=Int.eq_ofNat_of_zero_le a1
 have at_B:at_ < 50:=by omega
 have S1:=bB.up (ys:=z1) B.T.lst.choose_spec
 generalize upd H t₁ (.lst z1)=H1 at T1 S1 ⊢
 replace B:=B.st S1 T1
 replace M:=M.st S1
 clear T1 S1 a1 b1
 refine⟨_,rfl,_,rfl,pn,_,rfl,.inr B.hN,_,_,rfl,rfl,t₁,s₁,_,rfl,B.T,by omega,by omega,fun r2 z2 a2 b2 T2=>?_⟩
 obtain⟨sp_,rfl⟩:=Int.eq_ofNat_of_zero_le a2
 have sp_B:sp_ < 50:=by omega
 have S2:=bB.up (ys:=z2) B.T.lst.choose_spec
 generalize upd H1 t₁ (.lst z2)=H2 at T2 S2 ⊢
 replace B:=B.st S2 T2
 replace M:=M.st S2
 clear T2 S2 a2 b2
 refine⟨_,rfl,t₁,s₁,24,rfl,B.T,by decide,by decide,fun r3 z3 a3 b3 T3=>?_⟩
 obtain⟨ot,rfl⟩:=Int.eq_ofNat_of_zero_le a3
 have otB:ot < 24:=by omega
 have S3:=bB.up (ys:=z3) B.T.lst.choose_spec
 generalize upd H2 t₁ (.lst z3)=H3 at T3 S3 ⊢
 replace B:=B.st S3 T3
 replace M:=M.st S3
 clear T3 S3 a3 b3
 intro R1 k1
 refine⟨_,rfl,_,rfl,_,rfl,pt,_,rfl,B.hT,fun p4 H4 e4 c4=>?_⟩
 rw [eh (n:=at_)] at c4
 replace B:=B.sm e4
 replace M:=M.sm e4
 refine⟨_,rfl,_,rfl,_,_,rfl,rfl,_,rfl,pt,_,rfl,B.hT,fun p5 H5 e5 c5=>?_⟩
 rw [show (some ((at_:Int)+1):Option Int)=some ((at_+1:Nat):Int) from rfl,dq (n:=at_+1)] at c5
 replace B:=B.sm e5
 replace M:=M.sm e5
 replace c4:=tS e5 c4
 refine⟨p4,p5,_,_,rfl,rfl,c4,c5,yB (Fl.take at_ fT).1 (Fl.drop (at_+1) fT).1,fun p6 H6 e6 c6=>?_⟩
 replace B:=B.sm e6
 replace M:=M.sm e6
 replace c4:=tS e6 c4
 replace c5:=tS e6 c5
 refine⟨_,rfl,dE,fun p7 g7=>?_⟩
 generalize hG:upd H6 p7 (.tup [V.ref p6,V.ref pn])=H7
 obtain⟨e7,B,M⟩:=Bg.add hG g7 B M (ug (cu c6 ((Fl.take at_ fT).app (Fl.drop (at_+1) fT))) (cu B.hN fN))
 clear hG g7 e7
 refine⟨_,rfl,_,rfl,iS,fun p8 g8=>?_⟩
 generalize hG:upd H7 p8 (.tup [V.int (ot:Nat)])=H8
 obtain⟨e8,h8,n8,B⟩:=B.nw hG g8
 replace M:=M.sm e8
 clear hG g8 e8
 replace h8:=aZ.of (K:=K) h8
 refine⟨pt,p8,_,_,rfl,rfl,B.hT,h8,yB fT.1 (Fl.int (K:=K) (AO otB)).1,fun p9 H9 e9 c9=>?_⟩
 replace B:=B.sm e9
 replace M:=M.sm e9
 replace h8:=tS e9 h8
 refine⟨p9,((T1++[ot]).map fun n:Nat=>(n:Int)),rfl,.inr (by rw [← gu,← eI,exT];exact c9),xE (CP (k:=[ot]) few (Nat.le_refl 1)),fun p10 g10=>?_⟩
 generalize hG:upd H9 p10 (qk w p10 (b6 ((T1++[ot]).map fun n:Nat=>(n:Int))))=H10
 obtain⟨e10,h10,n10,B⟩:=B.nw hG g10
 replace M:=M.sm e10
 replace c9:=tS e10 c9
 clear hG g10 e10
 have lo:=fW ((T1++[ot]).map fun n:Nat=>(n:Int))
 rw [List.length_map] at lo
 refine⟨p10,_,rfl,h10,EC lo (CP (k:=[ot]) few (Nat.le_refl 1)),fun p11 ms pm pw_ g11=>?_⟩
 obtain⟨zs11,ez,zr,zm⟩:=oW (Fr lT1 otB) pm pw_
 have fz11:Fl K 26 (au zs11):=.nat (Nat.le_trans (qr pm ez) (CP (k:=[ot]) few (Nat.le_refl 1))) fun n hn=>(Fr lT1 otB) n ((zm n).mp hn)
 rw [ez]
 clear zr zm pm pw_ ez lo h10
 generalize hG:upd H10 p11 (.lst (au zs11))=H11
 obtain⟨e11,h11,n11,B⟩:=B.nw hG g11
 replace M:=M.sm e11
 clear hG g11 e11
 refine⟨p11,au zs11,rfl,.inl ?_⟩
 refine⟨bj.of h11,fun p12 g12=>?_⟩
 generalize hG:upd H11 p12 (.tup (au zs11))=H12
 obtain⟨e12,h12,n12,B⟩:=B.nw hG g12
 replace M:=M.sm e12
 clear hG g12 e12
 replace h12:=aZ.of (K:=K) h12
 refine⟨_,rfl,dE,fun p13 g13=>?_⟩
 generalize hG:upd H12 p13 (.tup [V.ref p12,V.ref pn])=H13
 obtain⟨e13,B,M⟩:=Bg.add hG g13 B M (ug (cu h12 fz11) (cu B.hN fN))
 clear hG g13 e13
 refine⟨dE,fun p14 g14=>?_⟩
 generalize hG:upd H13 p14 (.lst [V.ref p7,V.ref p13])=H14
 obtain⟨e14,h14,n14,B⟩:=B.nw hG g14
 replace M:=M.sm e14
 clear hG g14 e14
 have L14:H14 p14=some (.lst [V.ref p7,V.ref p13]):=h14
 have nL14:=n14
 replace M:Mn K H14 t₁ [V.ref p7,V.ref p13]:=M
 clear h14
 refine⟨[some (.ref t₁),some (.ref pw),some (.ref pq),some (.ref pt),some (.ref pn),some (.int (at_:Nat)),some (.int (sp_:Nat)),some (.int (ot:Nat)),some (.ref p14)],rfl,k1 _ _ ?_⟩
 intro R2 k2
 refine⟨_,rfl,_,rfl,pt,_,rfl,.inr B.hT,fun p15 g15=>?_⟩
 generalize hG:upd H14 p15 (.lst xT)=H15
 obtain⟨e15,h15,n15,B⟩:=B.nw hG g15
 replace M:=M.sm e15
 replace L14:=e15 _ _ L14
 clear hG g15 e15
 refine⟨_,rfl,dE,fun p16 g16=>?_⟩
 generalize hG:upd H15 p16 (.tup [V.ref p15,V.ref pn])=H16
 obtain⟨e16,B,M⟩:=Bg.add hG g16 B M (ug (AK h15 n15 fT) (cu B.hN fN))
 replace L14:=e16 _ _ L14
 clear hG g16 e16
 refine⟨iS,fun p17 g17=>?_⟩
 generalize hG:upd H16 p17 (.lst [V.ref p16])=H17
 obtain⟨e17,h17,n17,B⟩:=B.nw hG g17
 replace M:=M.sm e17
 replace L14:=e17 _ _ L14
 clear hG g17 e17
 refine⟨p14,p17,_,_,rfl,rfl,L14,h17,Bz (m:=3) (Nat.le_of_ble_eq_true rfl),fun p18 g18=>?_⟩
 generalize hG:upd H17 p18 (.lst ([V.ref p7,V.ref p13]++[V.ref p16]))=H18
 obtain⟨e18,h18,n18,B⟩:=B.nw hG g18
 replace M:=M.sm e18
 replace h17:=e18 _ _ h17
 clear hG g18 e18
 have L18:H18 p18=some (.lst [V.ref p7,V.ref p13,V.ref p16]):=h18
 have nL18:=n18
 replace M:Mn K H18 t₁ [V.ref p7,V.ref p13,V.ref p16]:=M
 clear h18
 refine⟨[some (.ref t₁),some (.ref pw),some (.ref pq),some (.ref pt),some (.ref pn),some (.int (at_:Nat)),some (.int (sp_:Nat)),some (.int (ot:Nat)),some (.ref p18)],rfl,k2 _ _ ?_⟩
 intro R3 k3
 refine⟨_,rfl,_,rfl,_,rfl,_,rfl,_,rfl,pn,_,rfl,B.hN,fun p19 H19 e19 c19=>?_⟩
 rw [eh (n:=sp_)] at c19
 replace B:=B.sm e19
 replace M:=M.sm e19
 replace L18:=e19 _ _ L18
 refine⟨_,rfl,_,rfl,_,_,rfl,rfl,_,rfl,pn,_,rfl,B.hN,fun p20 H20 e20 c20=>?_⟩
 rw [show (some ((sp_:Int)+1):Option Int)=some ((sp_+1:Nat):Int) from rfl,dq (n:=sp_+1)] at c20
 replace B:=B.sm e20
 replace M:=M.sm e20
 replace L18:=e20 _ _ L18
 replace c19:=tS e20 c19
 refine⟨p19,p20,_,_,rfl,rfl,c19,c20,yB (Fl.take sp_ fN).1 (Fl.drop (sp_+1) fN).1,fun p21 H21 e21 c21=>?_⟩
 replace B:=B.sm e21
 replace M:=M.sm e21
 replace L18:=e21 _ _ L18
 replace c19:=tS e21 c19
 replace c20:=tS e21 c20
 refine⟨dE,fun p22 g22=>?_⟩
 generalize hG:upd H21 p22 (.tup [V.ref pt,V.ref p21])=H22
 obtain⟨e22,B,M⟩:=Bg.add hG g22 B M (ug (cu B.hT fT) (cu c21 ((Fl.take sp_ fN).app (Fl.drop (sp_+1) fN))))
 replace L18:=e22 _ _ L18
 clear hG g22 e22
 refine⟨_,rfl,_,rfl,pn,_,rfl,.inr B.hN,fun p23 g23=>?_⟩
 generalize hG:upd H22 p23 (.lst xN)=H23
 obtain⟨e23,h23,n23,B⟩:=B.nw hG g23
 replace M:=M.sm e23
 replace L18:=e23 _ _ L18
 clear hG g23 e23
 refine⟨dE,fun p24 g24=>?_⟩
 generalize hG:upd H23 p24 (.tup [V.ref pt,V.ref p23])=H24
 obtain⟨e24,B,M⟩:=Bg.add hG g24 B M (ug (cu B.hT fT) (AK h23 n23 fN))
 replace L18:=e24 _ _ L18
 clear hG g24 e24
 refine⟨_,rfl,_,rfl,dE,fun p25 g25=>?_⟩
 generalize hG:upd H24 p25 (.lst [V.ref pt,V.ref pn])=H25
 obtain⟨e25,B,M⟩:=Bg.addL hG g25 B M (ug (cu B.hT fT) (cu B.hN fN))
 replace L18:=e25 _ _ L18
 clear hG g25 e25
 refine⟨_,rfl,iS,fun p26 g26=>?_⟩
 generalize hG:upd H25 p26 (.tup [V.ref pt])=H26
 obtain⟨e26,B,M⟩:=Bg.add hG g26 B M (HR (cu B.hT fT))
 replace L18:=e26 _ _ L18
 clear hG g26 e26
 refine⟨Aq,fun p27 g27=>?_⟩
 generalize hG:upd H26 p27 (.lst [V.ref p22,V.ref p24,V.ref p25,V.ref p26])=H27
 obtain⟨e27,h27,n27,B⟩:=B.nw hG g27
 replace M:=M.sm e27
 replace L18:=e27 _ _ L18
 clear hG g27 e27
 refine⟨p18,p27,_,_,rfl,rfl,L18,h27,Bz (m:=7) (Nat.le_of_ble_eq_true rfl),fun p28 g28=>?_⟩
 generalize hG:upd H27 p28 (.lst ([V.ref p7,V.ref p13,V.ref p16]++[V.ref p22,V.ref p24,V.ref p25,V.ref p26]))=H28
 obtain⟨e28,h28,n28,B⟩:=B.nw hG g28
 replace M:=M.sm e28
 replace h27:=e28 _ _ h27
 clear hG g28 e28
 have L28:H28 p28=some (.lst [V.ref p7,V.ref p13,V.ref p16,V.ref p22,V.ref p24,V.ref p25,V.ref p26]):=h28
 have nL28:=n28
 replace M:Mn K H28 t₁ [V.ref p7,V.ref p13,V.ref p16,V.ref p22,V.ref p24,V.ref p25,V.ref p26]:=M
 clear h28
 refine⟨[some (.ref t₁),some (.ref pw),some (.ref pq),some (.ref pt),some (.ref pn),some (.int (at_:Nat)),some (.int (sp_:Nat)),some (.int (ot:Nat)),some (.ref p28)],rfl,k3 _ _ ?_⟩
 intro R4 k4
 refine⟨_,rfl,_,rfl,_,rfl,_,rfl,_,rfl,pw,_,rfl,.inr B.hW,_,_,rfl,rfl,t₁,s₁,_,rfl,B.T,by omega,by omega,fun r29 z29 a29 b29 T29=>?_⟩
 obtain⟨dn,rfl⟩:=Int.eq_ofNat_of_zero_le a29
 have dnB:dn < 24:=by omega
 have S29:=bB.up (ys:=z29) B.T.lst.choose_spec
 generalize upd H28 t₁ (.lst z29)=H29 at T29 S29 ⊢
 replace B:=B.st S29 T29
 replace M:=M.st S29
 replace L28:=S29.keep _ _ nL28 L28
 clear T29 S29 a29 b29
 refine⟨iS,fun p30 g30=>?_⟩
 generalize hG:upd H29 p30 (.tup [V.int (dn:Nat)])=H30
 obtain⟨e30,h30,n30,B⟩:=B.nw hG g30
 replace M:=M.sm e30
 replace L28:=e30 _ _ L28
 clear hG g30 e30
 replace h30:=aZ.of (K:=K) h30
 refine⟨pn,p30,_,_,rfl,rfl,B.hN,h30,yB fN.1 (Fl.int (K:=K) (AO dnB)).1,fun p31 H31 e31 c31=>?_⟩
 replace B:=B.sm e31
 replace M:=M.sm e31
 replace L28:=e31 _ _ L28
 replace h30:=tS e31 h30
 refine⟨p31,((T2++[dn]).map fun n:Nat=>(n:Int)),rfl,.inr (by rw [← gu,← eI,exN];exact c31),xE (CP (k:=[dn]) few2 (Nat.le_refl 1)),fun p32 g32=>?_⟩
 generalize hG:upd H31 p32 (qk w p32 (b6 ((T2++[dn]).map fun n:Nat=>(n:Int))))=H32
 obtain⟨e32,h32,n32,B⟩:=B.nw hG g32
 replace M:=M.sm e32
 replace L28:=e32 _ _ L28
 replace c31:=tS e32 c31
 clear hG g32 e32
 have lo:=fW ((T2++[dn]).map fun n:Nat=>(n:Int))
 rw [List.length_map] at lo
 refine⟨p32,_,rfl,h32,EC lo (CP (k:=[dn]) few2 (Nat.le_refl 1)),fun p33 ms pm pw_ g33=>?_⟩
 obtain⟨zs33,ez,zr,zm⟩:=oW (Fr lT2 dnB) pm pw_
 have fz33:Fl K 10 (au zs33):=.nat (Nat.le_trans (qr pm ez) (CP (k:=[dn]) few2 (Nat.le_refl 1))) fun n hn=>(Fr lT2 dnB) n ((zm n).mp hn)
 rw [ez]
 clear zr zm pm pw_ ez lo h32
 generalize hG:upd H32 p33 (.lst (au zs33))=H33
 obtain⟨e33,h33,n33,B⟩:=B.nw hG g33
 replace M:=M.sm e33
 replace L28:=e33 _ _ L28
 clear hG g33 e33
 refine⟨p33,au zs33,rfl,.inl ?_⟩
 refine⟨bj.of h33,fun p34 g34=>?_⟩
 generalize hG:upd H33 p34 (.tup (au zs33))=H34
 obtain⟨e34,h34,n34,B⟩:=B.nw hG g34
 replace M:=M.sm e34
 replace L28:=e34 _ _ L28
 clear hG g34 e34
 replace h34:=aZ.of (K:=K) h34
 refine⟨dE,fun p35 g35=>?_⟩
 generalize hG:upd H34 p35 (.tup [V.ref pt,V.ref p34])=H35
 obtain⟨e35,B,M⟩:=Bg.add hG g35 B M (ug (cu B.hT fT) (cu h34 fz33))
 replace L28:=e35 _ _ L28
 clear hG g35 e35
 refine⟨iS,fun p36 g36=>?_⟩
 generalize hG:upd H35 p36 (.lst [V.ref p35])=H36
 obtain⟨e36,h36,n36,B⟩:=B.nw hG g36
 replace M:=M.sm e36
 replace L28:=e36 _ _ L28
 clear hG g36 e36
 refine⟨p28,p36,_,_,rfl,rfl,L28,h36,Bz (m:=8) (Nat.le_of_ble_eq_true rfl),fun p37 g37=>?_⟩
 generalize hG:upd H36 p37 (.lst ([V.ref p7,V.ref p13,V.ref p16,V.ref p22,V.ref p24,V.ref p25,V.ref p26]++[V.ref p35]))=H37
 obtain⟨e37,h37,n37,B⟩:=B.nw hG g37
 replace M:=M.sm e37
 replace h36:=e37 _ _ h36
 clear hG g37 e37
 have L37:H37 p37=some (.lst [V.ref p7,V.ref p13,V.ref p16,V.ref p22,V.ref p24,V.ref p25,V.ref p26,V.ref p35]):=h37
 have nL37:=n37
 replace M:Mn K H37 t₁ [V.ref p7,V.ref p13,V.ref p16,V.ref p22,V.ref p24,V.ref p25,V.ref p26,V.ref p35]:=M
 clear h37
 refine⟨[some (.ref t₁),some (.ref pw),some (.ref pq),some (.ref pt),some (.ref pn),some (.int (at_:Nat)),some (.int (sp_:Nat)),some (.int (ot:Nat)),some (.ref p37)],rfl,k4 _ _ ?_⟩
 intro R5 k5
 refine⟨_,rfl,_,rfl,pt,_,rfl,B.hT,fun p38 g38=>?_⟩
 generalize hG:upd H37 p38 (.tup xT.reverse)=H38
 obtain⟨e38,h38,n38,B⟩:=B.nw hG g38
 replace M:=M.sm e38
 replace L37:=e38 _ _ L37
 clear hG g38 e38
 replace h38:=aZ.of (K:=K) h38
 refine⟨_,rfl,dE,fun p39 g39=>?_⟩
 generalize hG:upd H38 p39 (.tup [V.ref p38,V.ref pn])=H39
 obtain⟨e39,B,M⟩:=Bg.add hG g39 B M (ug (cu h38 fT.rev) (cu B.hN fN))
 replace L37:=e39 _ _ L37
 clear hG g39 e39
 refine⟨iS,fun p40 g40=>?_⟩
 generalize hG:upd H39 p40 (.lst [V.ref p39])=H40
 obtain⟨e40,h40,n40,B⟩:=B.nw hG g40
 replace M:=M.sm e40
 replace L37:=e40 _ _ L37
 clear hG g40 e40
 refine⟨p37,p40,_,_,rfl,rfl,L37,h40,Bz (m:=9) (Nat.le_of_ble_eq_true rfl),fun p41 g41=>?_⟩
 generalize hG:upd H40 p41 (.lst ([V.ref p7,V.ref p13,V.ref p16,V.ref p22,V.ref p24,V.ref p25,V.ref p26,V.ref p35]++[V.ref p39]))=H41
 obtain⟨e41,h41,n41,B⟩:=B.nw hG g41
 replace M:=M.sm e41
 replace h40:=e41 _ _ h40
 clear hG g41 e41
 have L41:H41 p41=some (.lst [V.ref p7,V.ref p13,V.ref p16,V.ref p22,V.ref p24,V.ref p25,V.ref p26,V.ref p35,V.ref p39]):=h41
 have nL41:=n41
 replace M:Mn K H41 t₁ [V.ref p7,V.ref p13,V.ref p16,V.ref p22,V.ref p24,V.ref p25,V.ref p26,V.ref p35,V.ref p39]:=M
 clear h41
 refine⟨[some (.ref t₁),some (.ref pw),some (.ref pq),some (.ref pt),some (.ref pn),some (.int (at_:Nat)),some (.int (sp_:Nat)),some (.int (ot:Nat)),some (.ref p41)],rfl,k5 _ _ ?_⟩
 intro R6 k6
 refine⟨_,rfl,_,rfl,_,rfl,_,rfl,pt,_,rfl,B.hT,fun p42 H42 e42 c42=>?_⟩
 rw [eh (n:=at_)] at c42
 replace B:=B.sm e42
 replace M:=M.sm e42
 replace L41:=e42 _ _ L41
 refine⟨iS,fun p43 g43=>?_⟩
 generalize hG:upd H42 p43 (.tup [V.bl true])=H43
 obtain⟨e43,h43,n43,B⟩:=B.nw hG g43
 replace M:=M.sm e43
 replace L41:=e43 _ _ L41
 replace c42:=tS e43 c42
 clear hG g43 e43
 replace h43:=aZ.of (K:=K) h43
 refine⟨p42,p43,_,_,rfl,rfl,c42,h43,yB (Fl.take at_ fT).1 (Fl.bl (K:=K) true).1,fun p44 H44 e44 c44=>?_⟩
 replace B:=B.sm e44
 replace M:=M.sm e44
 replace L41:=e44 _ _ L41
 replace c42:=tS e44 c42
 replace h43:=tS e44 h43
 refine⟨_,rfl,_,rfl,_,_,rfl,rfl,_,rfl,pt,_,rfl,B.hT,fun p45 H45 e45 c45=>?_⟩
 rw [show (some ((at_:Int)+1):Option Int)=some ((at_+1:Nat):Int) from rfl,dq (n:=at_+1)] at c45
 replace B:=B.sm e45
 replace M:=M.sm e45
 replace L41:=e45 _ _ L41
 replace c44:=tS e45 c44
 refine⟨p44,p45,_,_,rfl,rfl,c44,c45,yB ((Fl.take at_ fT).app (Fl.bl (K:=K) true)).1 (Fl.drop (at_+1) fT).1,fun p46 H46 e46 c46=>?_⟩
 replace B:=B.sm e46
 replace M:=M.sm e46
 replace L41:=e46 _ _ L41
 replace c44:=tS e46 c44
 replace c45:=tS e46 c45
 refine⟨_,rfl,dE,fun p47 g47=>?_⟩
 generalize hG:upd H46 p47 (.tup [V.ref p46,V.ref pn])=H47
 obtain⟨e47,B,M⟩:=Bg.add hG g47 B M (ug (cu c46 (((Fl.take at_ fT).app (Fl.bl (K:=K) true)).app (Fl.drop (at_+1) fT))) (cu B.hN fN))
 replace L41:=e47 _ _ L41
 clear hG g47 e47
 refine⟨_,rfl,iS,fun p48 g48=>?_⟩
 generalize hG:upd H47 p48 (.tup [V.int 24])=H48
 obtain⟨e48,h48,n48,B⟩:=B.nw hG g48
 replace M:=M.sm e48
 replace L41:=e48 _ _ L41
 clear hG g48 e48
 replace h48:=aZ.of (K:=K) h48
 refine⟨pt,p48,_,_,rfl,rfl,B.hT,h48,yB fT.1 (Fl.int (K:=K) (by decide)).1,fun p49 H49 e49 c49=>?_⟩
 replace B:=B.sm e49
 replace M:=M.sm e49
 replace L41:=e49 _ _ L41
 replace h48:=tS e49 h48
 refine⟨_,rfl,dE,fun p50 g50=>?_⟩
 generalize hG:upd H49 p50 (.tup [V.ref p49,V.ref pn])=H50
 obtain⟨e50,B,M⟩:=Bg.add hG g50 B M (ug (cu c49 (fT.app (Fl.int (K:=K) (by decide)))) (cu B.hN fN))
 replace L41:=e50 _ _ L41
 clear hG g50 e50
 refine⟨dE,fun p51 g51=>?_⟩
 generalize hG:upd H50 p51 (.lst [V.ref p47,V.ref p50])=H51
 obtain⟨e51,h51,n51,B⟩:=B.nw hG g51
 replace M:=M.sm e51
 replace L41:=e51 _ _ L41
 clear hG g51 e51
 refine⟨p41,p51,_,_,rfl,rfl,L41,h51,Bz (m:=11) (Nat.le_of_ble_eq_true rfl),fun p52 g52=>?_⟩
 generalize hG:upd H51 p52 (.lst ([V.ref p7,V.ref p13,V.ref p16,V.ref p22,V.ref p24,V.ref p25,V.ref p26,V.ref p35,V.ref p39]++[V.ref p47,V.ref p50]))=H52
 obtain⟨e52,h52,n52,B⟩:=B.nw hG g52
 replace M:=M.sm e52
 replace h51:=e52 _ _ h51
 clear hG g52 e52
 have L52:H52 p52=some (.lst [V.ref p7,V.ref p13,V.ref p16,V.ref p22,V.ref p24,V.ref p25,V.ref p26,V.ref p35,V.ref p39,V.ref p47,V.ref p50]):=h52
 have nL52:=n52
 replace M:Mn K H52 t₁ [V.ref p7,V.ref p13,V.ref p16,V.ref p22,V.ref p24,V.ref p25,V.ref p26,V.ref p35,V.ref p39,V.ref p47,V.ref p50]:=M
 clear h52
 refine⟨[some (.ref t₁),some (.ref pw),some (.ref pq),some (.ref pt),some (.ref pn),some (.int (at_:Nat)),some (.int (sp_:Nat)),some (.int (ot:Nat)),some (.ref p52)],rfl,k6 _ _ ?_⟩
 intro R7 k7
 refine⟨_,rfl,_,rfl,iS,fun p53 g53=>?_⟩
 generalize hG:upd H52 p53 (.tup [V.int (-1)])=H53
 obtain⟨e53,h53,n53,B⟩:=B.nw hG g53
 replace M:=M.sm e53
 replace L52:=e53 _ _ L52
 clear hG g53 e53
 replace h53:=aZ.of (K:=K) h53
 refine⟨_,rfl,p53,pt,_,_,rfl,rfl,h53,B.hT,yB (Fl.int (K:=K) (by decide)).1 fT.1,fun p54 H54 e54 c54=>?_⟩
 replace B:=B.sm e54
 replace M:=M.sm e54
 replace L52:=e54 _ _ L52
 replace h53:=tS e54 h53
 refine⟨_,rfl,dE,fun p55 g55=>?_⟩
 generalize hG:upd H54 p55 (.tup [V.ref p54,V.ref pn])=H55
 obtain⟨e55,B,M⟩:=Bg.add hG g55 B M (ug (cu c54 ((Fl.int (K:=K) (by decide)).app fT)) (cu B.hN fN))
 replace L52:=e55 _ _ L52
 clear hG g55 e55
 refine⟨iS,fun p56 g56=>?_⟩
 generalize hG:upd H55 p56 (.lst [V.ref p55])=H56
 obtain⟨e56,h56,n56,B⟩:=B.nw hG g56
 replace M:=M.sm e56
 replace L52:=e56 _ _ L52
 clear hG g56 e56
 refine⟨p52,p56,_,_,rfl,rfl,L52,h56,Bz (m:=12) (Nat.le_of_ble_eq_true rfl),fun p57 g57=>?_⟩
 generalize hG:upd H56 p57 (.lst ([V.ref p7,V.ref p13,V.ref p16,V.ref p22,V.ref p24,V.ref p25,V.ref p26,V.ref p35,V.ref p39,V.ref p47,V.ref p50]++[V.ref p55]))=H57
 obtain⟨e57,h57,n57,B⟩:=B.nw hG g57
 replace M:=M.sm e57
 replace h56:=e57 _ _ h56
 clear hG g57 e57
 have L57:H57 p57=some (.lst [V.ref p7,V.ref p13,V.ref p16,V.ref p22,V.ref p24,V.ref p25,V.ref p26,V.ref p35,V.ref p39,V.ref p47,V.ref p50,V.ref p55]):=h57
 have nL57:=n57
 replace M:Mn K H57 t₁ [V.ref p7,V.ref p13,V.ref p16,V.ref p22,V.ref p24,V.ref p25,V.ref p26,V.ref p35,V.ref p39,V.ref p47,V.ref p50,V.ref p55]:=M
 clear h57
 refine⟨[some (.ref t₁),some (.ref pw),some (.ref pq),some (.ref pt),some (.ref pn),some (.int (at_:Nat)),some (.int (sp_:Nat)),some (.int (ot:Nat)),some (.ref p57)],rfl,k7 _ _ ?_⟩
 intro R8 k8
 refine⟨_,rfl,(by show 0≤sizeLine;exact Nat.zero_le _),fun p58 g58=>?_⟩
 generalize hG:upd H57 p58 (.tup [])=H58
 obtain⟨e58,h58,n58,B⟩:=B.nw hG g58
 replace M:=M.sm e58
 replace L57:=e58 _ _ L57
 clear hG g58 e58
 replace h58:=aZ.of (K:=K) h58
 refine⟨_,rfl,dE,fun p59 g59=>?_⟩
 generalize hG:upd H58 p59 (.tup [V.ref p58,V.ref pn])=H59
 obtain⟨e59,B,M⟩:=Bg.add hG g59 B M (ug (cu h58 Fl.nil) (cu B.hN fN))
 replace L57:=e59 _ _ L57
 clear hG g59 e59
 refine⟨_,rfl,_,rfl,(by show 0≤sizeLine;exact Nat.zero_le _),fun p60 g60=>?_⟩
 generalize hG:upd H59 p60 (.tup [])=H60
 obtain⟨e60,h60,n60,B⟩:=B.nw hG g60
 replace M:=M.sm e60
 replace L57:=e60 _ _ L57
 clear hG g60 e60
 replace h60:=aZ.of (K:=K) h60
 refine⟨Du,fun p61 g61=>?_⟩
 generalize hG:upd H60 p61 (.tup [V.ref pt,V.ref pn,V.ref p60])=H61
 obtain⟨e61,B,M⟩:=Bg.add hG g61 B M (HQ (cu B.hT fT) (cu B.hN fN) (cu h60 Fl.nil))
 replace L57:=e61 _ _ L57
 clear hG g61 e61
 refine⟨_,rfl,_,rfl,_,rfl,iS,fun p62 g62=>?_⟩
 generalize hG:upd H61 p62 (.tup [V.int (-1)])=H62
 obtain⟨e62,h62,n62,B⟩:=B.nw hG g62
 replace M:=M.sm e62
 replace L57:=e62 _ _ L57
 clear hG g62 e62
 replace h62:=aZ.of (K:=K) h62
 refine⟨pn,p62,_,_,rfl,rfl,B.hN,h62,yB fN.1 (Fl.int (K:=K) (by decide)).1,fun p63 H63 e63 c63=>?_⟩
 replace B:=B.sm e63
 replace M:=M.sm e63
 replace L57:=e63 _ _ L57
 replace h62:=tS e63 h62
 refine⟨dE,fun p64 g64=>?_⟩
 generalize hG:upd H63 p64 (.tup [V.ref pt,V.ref p63])=H64
 obtain⟨e64,B,M⟩:=Bg.add hG g64 B M (ug (cu B.hT fT) (cu c63 (fN.app (Fl.int (K:=K) (by decide)))))
 replace L57:=e64 _ _ L57
 clear hG g64 e64
 refine⟨_,rfl,iS,fun p65 g65=>?_⟩
 generalize hG:upd H64 p65 (.tup [V.bl false])=H65
 obtain⟨e65,h65,n65,B⟩:=B.nw hG g65
 replace M:=M.sm e65
 replace L57:=e65 _ _ L57
 clear hG g65 e65
 replace h65:=aZ.of (K:=K) h65
 refine⟨_,rfl,_,rfl,pn,_,rfl,B.hN,fun p66 H66 e66 c66=>?_⟩
 rw [show (some (1):Option Int)=some ((1:Nat):Int) from rfl,dq (n:=1)] at c66
 replace B:=B.sm e66
 replace M:=M.sm e66
 replace L57:=e66 _ _ L57
 replace h65:=tS e66 h65
 refine⟨p65,p66,_,_,rfl,rfl,h65,c66,yB (Fl.bl (K:=K) false).1 (Fl.drop (1) fN).1,fun p67 H67 e67 c67=>?_⟩
 replace B:=B.sm e67
 replace M:=M.sm e67
 replace L57:=e67 _ _ L57
 replace h65:=tS e67 h65
 replace c66:=tS e67 c66
 refine⟨dE,fun p68 g68=>?_⟩
 generalize hG:upd H67 p68 (.tup [V.ref pt,V.ref p67])=H68
 obtain⟨e68,B,M⟩:=Bg.add hG g68 B M (ug (cu B.hT fT) (cu c67 ((Fl.bl (K:=K) false).app (Fl.drop (1) fN))))
 replace L57:=e68 _ _ L57
 clear hG g68 e68
 refine⟨Aq,fun p69 g69=>?_⟩
 generalize hG:upd H68 p69 (.lst [V.ref p59,V.ref p61,V.ref p64,V.ref p68])=H69
 obtain⟨e69,h69,n69,B⟩:=B.nw hG g69
 replace M:=M.sm e69
 replace L57:=e69 _ _ L57
 clear hG g69 e69
 refine⟨p57,p69,_,_,rfl,rfl,L57,h69,Bz (m:=16) (Nat.le_of_ble_eq_true rfl),fun p70 g70=>?_⟩
 generalize hG:upd H69 p70 (.lst ([V.ref p7,V.ref p13,V.ref p16,V.ref p22,V.ref p24,V.ref p25,V.ref p26,V.ref p35,V.ref p39,V.ref p47,V.ref p50,V.ref p55]++[V.ref p59,V.ref p61,V.ref p64,V.ref p68]))=H70
 obtain⟨e70,h70,n70,B⟩:=B.nw hG g70
 replace M:=M.sm e70
 replace h69:=e70 _ _ h69
 clear hG g70 e70
 have L70:H70 p70=some (.lst [V.ref p7,V.ref p13,V.ref p16,V.ref p22,V.ref p24,V.ref p25,V.ref p26,V.ref p35,V.ref p39,V.ref p47,V.ref p50,V.ref p55,V.ref p59,V.ref p61,V.ref p64,V.ref p68]):=h70
 have nL70:=n70
 replace M:Mn K H70 t₁ [V.ref p7,V.ref p13,V.ref p16,V.ref p22,V.ref p24,V.ref p25,V.ref p26,V.ref p35,V.ref p39,V.ref p47,V.ref p50,V.ref p55,V.ref p59,V.ref p61,V.ref p64,V.ref p68]:=M
 clear h70
 refine⟨[some (.ref t₁),some (.ref pw),some (.ref pq),some (.ref pt),some (.ref pn),some (.int (at_:Nat)),some (.int (sp_:Nat)),some (.int (ot:Nat)),some (.ref p70)],rfl,k8 _ _ ?_⟩
 refine⟨_,rfl,_,rfl,t₁,s₁,16,rfl,B.T,by decide,by decide,fun r z a b T=>?_⟩
 have S:=bB.up (ys:=z) B.T.lst.choose_spec
 obtain⟨v,d,at0,dv,gd,wd⟩:=(M.st S).pick a b
 exact⟨p70,_,_,v,rfl,rfl,bj.of (S.keep _ _ nL70 L70),at0,k v d _ (B.S.trans S) T dv gd wd⟩
theorem xg (T:eR K mg t):bK P w K mg base d9 3 t.a_Q32 t.d_Q32 ["_law_tape_here", "_law_works_here", "_law_paper"] (qg K):=by
 refine T.F_Q32.ok rO (fun vs H Q E h=>?_) (fun cdv A outer s H vs Q E hr h=>?_)
 ·obtain⟨_,_,_,_,_,_,rfl,_⟩:=h;rfl
 obtain⟨t₁,s₁,v,w_,ws,p,rfl,tp,wv,w9,lv,pok,k⟩:=h
 refine dU.ok (ag (cV 3 rO.nd (dA (cP T) hr T.m_Q28 T.F_Q28.kp T.b_Q28 (aa (qv 0) (aa ae ad ap) ac)))
   (aY (bh (aH df (aj ar (by rfl) T.z_len boot_len (aa (qv 2) ad ac)) ae (aK _)) (ah (aC (bX bH (bD (aa (bD ad) (aa dM (aa (az (aa (az ad) ad aF)) (aa (az (aa (az ad) (aa (az ad) ad aF) aF)) (aa (az (aa (az (aa (az (aa ae ad ap)) (aa (az ad) ad aF) aF)) ad aF)) (aa (az (aa (az (aa (az (aa ae ad ap)) (aa (az (aa ae ad ap)) ad aF) aF)) ad aF)) ad aF) aF) aF) aF) ap) gg)) (dA (cP T) hr T.m_Q28 T.F_Q28.kp T.b_Q28 (aa (qv 0) (aa ae ad ap) ac))))) aE)
   (ag (cV 4 rO.nd (dA (cP T) hr T.m_Q28 T.F_Q28.kp T.b_Q28 (aa (qv 0) (aa (aj ar (by rfl) T.z_len boot_len (aa (qv 2) ad ac)) ad ao) ac)))
   (aY (bh (aH df (qv 3) ae (aK _)) (ah (aC (aB bQ (bE cN (qv 2) bT (bM (qv 4))) (bE cN (qv 2) (bM (aB cI (qv 4) ae)) bT)))) aE)
   (aY (bh (aH df (qv 3) ae (aK _)) (ah (aC (aB bQ (qv 2) (az (aa (bX ay (qv 2) (qv 4)) ad aD))))) aE)
   (aY (bh (aH df (qv 3) ae (aK _)) (ah (aC (aB bQ (bE cN (qv 2) (bM (qv 4)) bT) (bE cN (qv 2) bT (bM (qv 4)))))) aE)
   (aY (bh (aH df (qv 3) ae (aK _)) (ah (aC (wk (qv 2)))) aE)
   (aY (bh (aH df (qv 3) ae (aK _)) (ah (aC (bX bH (bD (aa (bc dQ (by rfl) T.z_list boot_list (aa (qv 2) ad ac)) (aa dM (aa ae (aa dC (aa (bX ay (qv 2) ae) (aa (az (aa (qv 2) ad ac)) ad aF) aD) ap) ap) ap) ao)) (dA (cP T) hr T.m_Q28 T.F_Q28.kp T.b_Q28 (aa (qv 0) (aa ae ad ap) ac))))) aE)
   (aY (bh (aH df (qv 3) ae (aK _)) (ah (aC (aB bQ (qv 2) (az (aa (az (aa (az (aa (dA (cP T) hr T.m_Q28 T.F_Q28.kp T.b_Q28 (aa (qv 0) (aa ae ad ap) ac)) ad ao)) (aa (az ad) ad aF) aF)) ad aF))))) aE)
   (ah (aC (aB bQ (aB bQ (bE cN (qv 2) bT (bM (qv 4))) (az (aa (dA (Et T) hr T.m_Q7 T.F_Q7.kp T.b_Q7 (aa (qv 0) (aa (qv 1) (aa (bX ay (qv 2) (qv 4)) ad aD) ac) ac)) ad ao))) (bE cN (qv 2) (bM (aB cI (qv 4) ae)) bT))))))))))))) ?_
 try dsimp only [Cx.nox,Cx.wish,bP]
 obtain⟨pw,xw,rfl,hW,alw⟩:=wv
 obtain⟨pp,xp,rfl,hP,alP⟩:=lv
 have lxp:=alP.len
 have p26:=pok.1
 have lok:=pok.2
 have B:Bh K H H t₁ s₁ pw pp xp ws p:=⟨⟨fun _ _ _ q=>q,tp.lst,tp.lst⟩,tp,⟨pw,xw,rfl,hW,alw⟩,hP,alP⟩
 refine⟨_,rfl,t₁,s₁,9,rfl,B.T,by decide,by decide,fun rW zW aW bW TW=>?_⟩
 have SW:=bB.up (ys:=zW) B.T.lst.choose_spec
 generalize upd H t₁ (.lst zW)=HW at TW SW ⊢
 replace B:=B.st SW TW
 clear TW SW
 intro RZ kZ
 refine⟨_,rfl,pp,_,rfl,.inr B.hP,rfl,_,rfl,?_⟩
 by_cases c0:p.length=0
 ·refine cv (by rw [lxp,c0];rfl) ?_
  refine⟨(by show 0≤sizeLine;exact Nat.zero_le _),fun pz1 gz1=>?_⟩
  generalize hG:upd HW pz1 (.lst [])=Hz1
  obtain⟨ez1,hz1,nz1,B⟩:=B.nw hG gz1
  clear hG gz1 ez1
  refine⟨(by show 0≤sizeLine;exact Nat.zero_le _),fun pz2 gz2=>?_⟩
  generalize hG:upd Hz1 pz2 (.tup [])=Hz2
  obtain⟨ez2,hz2,nz2,B⟩:=B.nw hG gz2
  replace hz1:=ez2 _ _ hz1
  clear hG gz2 ez2
  replace hz2:=aZ.of (K:=K) hz2
  refine⟨iS,fun pz3 gz3=>?_⟩
  generalize hG:upd Hz2 pz3 (.tup [V.ref pz2])=Hz3
  obtain⟨ez3,hz3,nz3,B⟩:=B.nw hG gz3
  replace hz1:=ez3 _ _ hz1
  replace hz2:=tS ez3 hz2
  clear hG gz3 ez3
  replace hz3:=aZ.of (K:=K) hz3
  refine⟨(by show 0≤sizeLine;exact Nat.zero_le _),fun pz4 gz4=>?_⟩
  generalize hG:upd Hz3 pz4 (.tup [])=Hz4
  obtain⟨ez4,hz4,nz4,B⟩:=B.nw hG gz4
  replace hz1:=ez4 _ _ hz1
  replace hz2:=tS ez4 hz2
  replace hz3:=tS ez4 hz3
  clear hG gz4 ez4
  replace hz4:=aZ.of (K:=K) hz4
  refine⟨(by show 0≤sizeLine;exact Nat.zero_le _),fun pz5 gz5=>?_⟩
  generalize hG:upd Hz4 pz5 (.tup [])=Hz5
  obtain⟨ez5,hz5,nz5,B⟩:=B.nw hG gz5
  replace hz1:=ez5 _ _ hz1
  replace hz2:=tS ez5 hz2
  replace hz3:=tS ez5 hz3
  replace hz4:=tS ez5 hz4
  clear hG gz5 ez5
  replace hz5:=aZ.of (K:=K) hz5
  refine⟨dE,fun pz6 gz6=>?_⟩
  generalize hG:upd Hz5 pz6 (.tup [V.ref pz4,V.ref pz5])=Hz6
  obtain⟨ez6,hz6,nz6,B⟩:=B.nw hG gz6
  replace hz1:=ez6 _ _ hz1
  replace hz2:=tS ez6 hz2
  replace hz3:=tS ez6 hz3
  replace hz4:=tS ez6 hz4
  replace hz5:=tS ez6 hz5
  clear hG gz6 ez6
  replace hz6:=aZ.of (K:=K) hz6
  refine⟨iS,fun pz7 gz7=>?_⟩
  generalize hG:upd Hz6 pz7 (.tup [V.int 0])=Hz7
  obtain⟨ez7,hz7,nz7,B⟩:=B.nw hG gz7
  replace hz1:=ez7 _ _ hz1
  replace hz2:=tS ez7 hz2
  replace hz3:=tS ez7 hz3
  replace hz4:=tS ez7 hz4
  replace hz5:=tS ez7 hz5
  replace hz6:=tS ez7 hz6
  clear hG gz7 ez7
  replace hz7:=aZ.of (K:=K) hz7
  refine⟨(by show 0≤sizeLine;exact Nat.zero_le _),fun pz8 gz8=>?_⟩
  generalize hG:upd Hz7 pz8 (.tup [])=Hz8
  obtain⟨ez8,hz8,nz8,B⟩:=B.nw hG gz8
  replace hz1:=ez8 _ _ hz1
  replace hz2:=tS ez8 hz2
  replace hz3:=tS ez8 hz3
  replace hz4:=tS ez8 hz4
  replace hz5:=tS ez8 hz5
  replace hz6:=tS ez8 hz6
  replace hz7:=tS ez8 hz7
  clear hG gz8 ez8
  replace hz8:=aZ.of (K:=K) hz8
  refine⟨dE,fun pz9 gz9=>?_⟩
  generalize hG:upd Hz8 pz9 (.tup [V.ref pz7,V.ref pz8])=Hz9
  obtain⟨ez9,hz9,nz9,B⟩:=B.nw hG gz9
  replace hz1:=ez9 _ _ hz1
  replace hz2:=tS ez9 hz2
  replace hz3:=tS ez9 hz3
  replace hz4:=tS ez9 hz4
  replace hz5:=tS ez9 hz5
  replace hz6:=tS ez9 hz6
  replace hz7:=tS ez9 hz7
  replace hz8:=tS ez9 hz8
  clear hG gz9 ez9
  replace hz9:=aZ.of (K:=K) hz9
  refine⟨iS,fun pz10 gz10=>?_⟩
  generalize hG:upd Hz9 pz10 (.tup [V.ref pz9])=Hz10
  obtain⟨ez10,hz10,nz10,B⟩:=B.nw hG gz10
  replace hz1:=ez10 _ _ hz1
  replace hz2:=tS ez10 hz2
  replace hz3:=tS ez10 hz3
  replace hz4:=tS ez10 hz4
  replace hz5:=tS ez10 hz5
  replace hz6:=tS ez10 hz6
  replace hz7:=tS ez10 hz7
  replace hz8:=tS ez10 hz8
  replace hz9:=tS ez10 hz9
  clear hG gz10 ez10
  replace hz10:=aZ.of (K:=K) hz10
  refine⟨iS,fun pz11 gz11=>?_⟩
  generalize hG:upd Hz10 pz11 (.tup [V.int 0])=Hz11
  obtain⟨ez11,hz11,nz11,B⟩:=B.nw hG gz11
  replace hz1:=ez11 _ _ hz1
  replace hz2:=tS ez11 hz2
  replace hz3:=tS ez11 hz3
  replace hz4:=tS ez11 hz4
  replace hz5:=tS ez11 hz5
  replace hz6:=tS ez11 hz6
  replace hz7:=tS ez11 hz7
  replace hz8:=tS ez11 hz8
  replace hz9:=tS ez11 hz9
  replace hz10:=tS ez11 hz10
  clear hG gz11 ez11
  replace hz11:=aZ.of (K:=K) hz11
  refine⟨iS,fun pz12 gz12=>?_⟩
  generalize hG:upd Hz11 pz12 (.tup [V.int 0])=Hz12
  obtain⟨ez12,hz12,nz12,B⟩:=B.nw hG gz12
  replace hz1:=ez12 _ _ hz1
  replace hz2:=tS ez12 hz2
  replace hz3:=tS ez12 hz3
  replace hz4:=tS ez12 hz4
  replace hz5:=tS ez12 hz5
  replace hz6:=tS ez12 hz6
  replace hz7:=tS ez12 hz7
  replace hz8:=tS ez12 hz8
  replace hz9:=tS ez12 hz9
  replace hz10:=tS ez12 hz10
  replace hz11:=tS ez12 hz11
  clear hG gz12 ez12
  replace hz12:=aZ.of (K:=K) hz12
  refine⟨dE,fun pz13 gz13=>?_⟩
  generalize hG:upd Hz12 pz13 (.tup [V.ref pz11,V.ref pz12])=Hz13
  obtain⟨ez13,hz13,nz13,B⟩:=B.nw hG gz13
  replace hz1:=ez13 _ _ hz1
  replace hz2:=tS ez13 hz2
  replace hz3:=tS ez13 hz3
  replace hz4:=tS ez13 hz4
  replace hz5:=tS ez13 hz5
  replace hz6:=tS ez13 hz6
  replace hz7:=tS ez13 hz7
  replace hz8:=tS ez13 hz8
  replace hz9:=tS ez13 hz9
  replace hz10:=tS ez13 hz10
  replace hz11:=tS ez13 hz11
  replace hz12:=tS ez13 hz12
  clear hG gz13 ez13
  replace hz13:=aZ.of (K:=K) hz13
  refine⟨iS,fun pz14 gz14=>?_⟩
  generalize hG:upd Hz13 pz14 (.tup [V.ref pz13])=Hz14
  obtain⟨ez14,hz14,nz14,B⟩:=B.nw hG gz14
  replace hz1:=ez14 _ _ hz1
  replace hz2:=tS ez14 hz2
  replace hz3:=tS ez14 hz3
  replace hz4:=tS ez14 hz4
  replace hz5:=tS ez14 hz5
  replace hz6:=tS ez14 hz6
  replace hz7:=tS ez14 hz7
  replace hz8:=tS ez14 hz8
  replace hz9:=tS ez14 hz9
  replace hz10:=tS ez14 hz10
  replace hz11:=tS ez14 hz11
  replace hz12:=tS ez14 hz12
  replace hz13:=tS ez14 hz13
  clear hG gz14 ez14
  replace hz14:=aZ.of (K:=K) hz14
  refine⟨FC,fun pz15 gz15=>?_⟩
  generalize hG:upd Hz14 pz15 (.lst [V.ref pz1,V.non,V.ref pz3,V.ref pz6,V.ref pz10,V.ref pz14])=Hz15
  obtain⟨ez15,hz15,nz15,B⟩:=B.nw hG gz15
  replace hz1:=ez15 _ _ hz1
  replace hz2:=tS ez15 hz2
  replace hz3:=tS ez15 hz3
  replace hz4:=tS ez15 hz4
  replace hz5:=tS ez15 hz5
  replace hz6:=tS ez15 hz6
  replace hz7:=tS ez15 hz7
  replace hz8:=tS ez15 hz8
  replace hz9:=tS ez15 hz9
  replace hz10:=tS ez15 hz10
  replace hz11:=tS ez15 hz11
  replace hz12:=tS ez15 hz12
  replace hz13:=tS ez15 hz13
  replace hz14:=tS ez15 hz14
  clear hG gz15 ez15
  have M0:Tm K Hz15 t₁ [V.ref pz1,V.non,V.ref pz3,V.ref pz6,V.ref pz10,V.ref pz14]:=(Tm.cons (Tg.lst Mn.nil hz1 nz1 (Nat.le_of_ble_eq_true rfl)) (Tm.cons vQ (Tm.cons (Tg.tup (so B.T.lst hz2) B.T.lst hz3 (Nat.le_of_ble_eq_true rfl)) (Tm.cons (Tg.tup ((so B.T.lst hz4).app (so B.T.lst hz5)) B.T.lst hz6 (Nat.le_of_ble_eq_true rfl)) (Tm.cons (Tg.tup (oZ B.T.lst hz7 hz8 (Fl.int (by decide)) Fl.nil hz9) B.T.lst hz10 (Nat.le_of_ble_eq_true rfl)) (Tm.cons (Tg.tup (oZ B.T.lst hz11 hz12 (Fl.int (by decide)) (Fl.int (by decide)) hz13) B.T.lst hz14 (Nat.le_of_ble_eq_true rfl)) Tm.nil))))))
  refine⟨_,rfl,t₁,s₁,6,rfl,B.T,by decide,by decide,fun rz16 zz16 az16 bz16 Tz16=>?_⟩
  have Sz16:=bB.up (ys:=zz16) B.T.lst.choose_spec
  obtain⟨v0,at0,d,q1,q2,q3⟩:=(M0.st Sz16).pick az16 bz16
  exact⟨pz15,_,_,v0,rfl,rfl,bj.of (Sz16.keep _ _ nz15 hz15),at0,k v0 d _ (B.S.trans Sz16) Tz16 q1 q2 q3⟩
 refine bO (fun z=>c0 (by injection z with z;omega)) (kZ _ _ ?_)
 refine⟨_,rfl,_,rfl,pp,_,rfl,.inr B.hP,t₁,s₁,_,rfl,B.T,by omega,by omega,fun rA zA aA bA TA=>?_⟩
 have SA:=bB.up (ys:=zA) B.T.lst.choose_spec
 generalize upd HW t₁ (.lst zA)=HA at TA SA ⊢
 replace B:=B.st SA TA
 clear TA SA
 obtain⟨at_,rfl⟩:=Int.eq_ofNat_of_zero_le aA
 obtain⟨xa,hxa⟩:∃ x,xp[at_]?=some x:=⟨_,List.getElem?_eq_getElem (by omega)⟩
 obtain⟨x0,hx0⟩:∃ x,xp[0]?=some x:=⟨_,List.getElem?_eq_getElem (by omega)⟩
 intro R0 kC0
 refine⟨_,rfl,rfl,_,rfl,?_⟩
 by_cases w0:rW=0
 ·refine cv (by rw [w0]) ?_
  refine⟨_,rfl,_,rfl,_,rfl,pp,_,rfl,B.hP,fun pb1 Hb1 eb1 cb1=>?_⟩
  rw [eh (n:=at_)] at cb1
  replace B:=B.sm eb1
  refine⟨_,rfl,_,rfl,_,_,rfl,rfl,_,rfl,pp,_,rfl,B.hP,fun pb2 Hb2 eb2 cb2=>?_⟩
  rw [show (some ((at_:Int)+1):Option Int)=some ((at_+1:Nat):Int) from rfl,dq (n:=at_+1)] at cb2
  replace B:=B.sm eb2
  replace cb1:=tS eb2 cb1
  refine⟨pb1,pb2,_,_,rfl,rfl,cb1,cb2,Nat.le_trans (show _≤1000 by simp only [List.length_take,List.length_drop,List.length_append,List.length_cons,List.length_nil];omega) dI,fun pb3 Hb3 eb3 cb3=>?_⟩
  replace B:=B.sm eb3
  replace cb1:=tS eb3 cb1
  replace cb2:=tS eb3 cb2
  have M:=B.mn lok w9
  obtain⟨d,q1,q2,q3⟩:=Tg.tup ((M.take at_).app (M.drop (at_+1))) B.T.lst cb3 (by simp only [List.length_append,List.length_take,List.length_drop,List.length_cons,List.length_nil,List.length_reverse];omega)
  exact k _ d _ B.S B.T q1 q2 q3
 refine bO (fun z=>w0 (by injection z)) (kC0 _ _ ?_)
 intro R1 kC1
 refine⟨_,rfl,rfl,_,rfl,?_⟩
 by_cases w1:rW=1
 ·refine cv (by rw [w1]) ?_
  refine⟨_,rfl,_,rfl,_,rfl,pp,_,_,_,rfl,rfl,B.hP,bv hxa,iS,fun pb1 gb1=>?_⟩
  generalize hG:upd HA pb1 (.tup [xa])=Hb1
  obtain⟨eb1,hb1,nb1,B⟩:=B.nw hG gb1
  clear hG gb1 eb1
  replace hb1:=aZ.of (K:=K) hb1
  refine⟨pp,pb1,_,_,rfl,rfl,B.hP,hb1,Nat.le_trans (show _≤1000 by simp only [List.length_take,List.length_drop,List.length_append,List.length_cons,List.length_nil];omega) dI,fun pb2 Hb2 eb2 cb2=>?_⟩
  replace B:=B.sm eb2
  replace hb1:=tS eb2 hb1
  have M:=B.mn lok w9
  obtain⟨d,q1,q2,q3⟩:=Tg.tup (M.app (M.at hxa)) B.T.lst cb2 (by simp only [List.length_append,List.length_take,List.length_drop,List.length_cons,List.length_nil,List.length_reverse];omega)
  exact k _ d _ B.S B.T q1 q2 q3
 refine bO (fun z=>w1 (by injection z)) (kC1 _ _ ?_)
 intro R2 kC2
 refine⟨_,rfl,rfl,_,rfl,?_⟩
 by_cases w2:rW=2
 ·refine cv (by rw [w2]) ?_
  refine⟨_,rfl,_,rfl,_,rfl,pp,_,rfl,B.hP,fun pb1 Hb1 eb1 cb1=>?_⟩
  rw [dq (n:=at_)] at cb1
  replace B:=B.sm eb1
  refine⟨_,rfl,_,rfl,_,rfl,pp,_,rfl,B.hP,fun pb2 Hb2 eb2 cb2=>?_⟩
  rw [eh (n:=at_)] at cb2
  replace B:=B.sm eb2
  replace cb1:=tS eb2 cb1
  refine⟨pb1,pb2,_,_,rfl,rfl,cb1,cb2,Nat.le_trans (show _≤1000 by simp only [List.length_take,List.length_drop,List.length_append,List.length_cons,List.length_nil];omega) dI,fun pb3 Hb3 eb3 cb3=>?_⟩
  replace B:=B.sm eb3
  replace cb1:=tS eb3 cb1
  replace cb2:=tS eb3 cb2
  have M:=B.mn lok w9
  obtain⟨d,q1,q2,q3⟩:=Tg.tup ((M.drop at_).app (M.take at_)) B.T.lst cb3 (by simp only [List.length_append,List.length_take,List.length_drop,List.length_cons,List.length_nil,List.length_reverse];omega)
  exact k _ d _ B.S B.T q1 q2 q3
 refine bO (fun z=>w2 (by injection z)) (kC2 _ _ ?_)
 intro R3 kC3
 refine⟨_,rfl,rfl,_,rfl,?_⟩
 by_cases w3:rW=3
 ·refine cv (by rw [w3]) ?_
  refine⟨_,rfl,pp,_,rfl,B.hP,fun pb1 gb1=>?_⟩
  generalize hG:upd HA pb1 (.tup xp.reverse)=Hb1
  obtain⟨eb1,hb1,nb1,B⟩:=B.nw hG gb1
  clear hG gb1 eb1
  replace hb1:=aZ.of (K:=K) hb1
  have M:=B.mn lok w9
  obtain⟨d,q1,q2,q3⟩:=Tg.tup M.rev B.T.lst hb1 (by simp only [List.length_append,List.length_take,List.length_drop,List.length_cons,List.length_nil,List.length_reverse];omega)
  exact k _ d _ B.S B.T q1 q2 q3
 refine bO (fun z=>w3 (by injection z)) (kC3 _ _ ?_)
 intro R4 kC4
 refine⟨_,rfl,rfl,_,rfl,?_⟩
 by_cases w4:rW=4
 ·refine cv (by rw [w4]) ?_
  refine⟨_,rfl,pp,_,rfl,.inr B.hP,fun pb1 gb1=>?_⟩
  generalize hG:upd HA pb1 (.lst xp)=Hb1
  obtain⟨eb1,hb1,nb1,B⟩:=B.nw hG gb1
  clear hG gb1 eb1
  refine⟨_,rfl,pp,_,_,_,rfl,rfl,B.hP,bv (j:=0) hx0,_,rfl,iS,fun pb2 gb2=>?_⟩
  generalize hG:upd Hb1 pb2 (.tup [V.ref pp])=Hb2
  obtain⟨eb2,hb2,nb2,B⟩:=B.nw hG gb2
  replace hb1:=eb2 _ _ hb1
  clear hG gb2 eb2
  replace hb2:=aZ.of (K:=K) hb2
  refine⟨FC,fun pb3 gb3=>?_⟩
  generalize hG:upd Hb2 pb3 (.lst [V.ref pb1,V.non,V.int 1,V.str (Str.ofString "paper"),x0,V.ref pb2])=Hb3
  obtain⟨eb3,hb3,nb3,B⟩:=B.nw hG gb3
  replace hb1:=eb3 _ _ hb1
  replace hb2:=tS eb3 hb2
  clear hG gb3 eb3
  have M0:Tm K Hb3 t₁ [V.ref pb1,V.non,V.int 1,V.str (Str.ofString "paper"),x0,V.ref pb2]:=(Tm.cons (Tg.lst (B.mn lok w9) hb1 nb1 (by omega)) (Tm.cons vQ (Tm.cons (A9 (by decide)) (Tm.cons (A8 (C1 (by decide +kernel) (by decide +kernel) (by decide +kernel))) (Tm.cons (B.ly lok w9 hx0) (Tm.cons (B.whole lok w9 p26 hb2) Tm.nil))))))
  refine⟨_,rfl,t₁,s₁,6,rfl,B.T,by decide,by decide,fun rb4 zb4 ab4 bb4 Tb4=>?_⟩
  have Sb4:=bB.up (ys:=zb4) B.T.lst.choose_spec
  obtain⟨v0,at0,d,q1,q2,q3⟩:=(M0.st Sb4).pick ab4 bb4
  exact⟨pb3,_,_,v0,rfl,rfl,bj.of (Sb4.keep _ _ nb3 hb3),at0,k v0 d _ (B.S.trans Sb4) Tb4 q1 q2 q3⟩
 refine bO (fun z=>w4 (by injection z)) (kC4 _ _ ?_)
 intro R5 kC5
 refine⟨_,rfl,rfl,_,rfl,?_⟩
 by_cases w5:rW=5
 ·refine cv (by rw [w5]) ?_
  refine⟨_,rfl,_,rfl,t₁,s₁,24,rfl,B.T,by decide,by decide,fun rb1 zb1 ab1 bb1 Tb1=>?_⟩
  have Sb1:=bB.up (ys:=zb1) B.T.lst.choose_spec
  generalize upd HA t₁ (.lst zb1)=Hb1 at Tb1 Sb1 ⊢
  replace B:=B.st Sb1 Tb1
  clear Tb1 Sb1
  refine⟨iS,fun pb2 gb2=>?_⟩
  generalize hG:upd Hb1 pb2 (.tup [V.int rb1])=Hb2
  obtain⟨eb2,hb2,nb2,B⟩:=B.nw hG gb2
  clear hG gb2 eb2
  replace hb2:=aZ.of (K:=K) hb2
  refine⟨(by show 0≤sizeLine;exact Nat.zero_le _),fun pb3 gb3=>?_⟩
  generalize hG:upd Hb2 pb3 (.tup [])=Hb3
  obtain⟨eb3,hb3,nb3,B⟩:=B.nw hG gb3
  replace hb2:=tS eb3 hb2
  clear hG gb3 eb3
  replace hb3:=aZ.of (K:=K) hb3
  refine⟨dE,fun pb4 gb4=>?_⟩
  generalize hG:upd Hb3 pb4 (.tup [V.ref pb2,V.ref pb3])=Hb4
  obtain⟨eb4,hb4,nb4,B⟩:=B.nw hG gb4
  replace hb2:=tS eb4 hb2
  replace hb3:=tS eb4 hb3
  clear hG gb4 eb4
  replace hb4:=aZ.of (K:=K) hb4
  refine⟨iS,fun pb5 gb5=>?_⟩
  generalize hG:upd Hb4 pb5 (.tup [V.ref pb4])=Hb5
  obtain⟨eb5,hb5,nb5,B⟩:=B.nw hG gb5
  replace hb2:=tS eb5 hb2
  replace hb3:=tS eb5 hb3
  replace hb4:=tS eb5 hb4
  clear hG gb5 eb5
  replace hb5:=aZ.of (K:=K) hb5
  refine⟨pp,pb5,_,_,rfl,rfl,B.hP,hb5,Nat.le_trans (show _≤1000 by simp only [List.length_take,List.length_drop,List.length_append,List.length_cons,List.length_nil];omega) dI,fun pb6 Hb6 eb6 cb6=>?_⟩
  replace B:=B.sm eb6
  replace hb2:=tS eb6 hb2
  replace hb3:=tS eb6 hb3
  replace hb4:=tS eb6 hb4
  replace hb5:=tS eb6 hb5
  have M:=B.mn lok w9
  obtain⟨d,q1,q2,q3⟩:=Tg.tup (M.app (oZ B.T.lst hb2 hb3 (Fl.int (i:=rb1) (by omega)) Fl.nil hb4)) B.T.lst cb6 (by simp only [List.length_append,List.length_take,List.length_drop,List.length_cons,List.length_nil,List.length_reverse];omega)
  exact k _ d _ B.S B.T q1 q2 q3
 refine bO (fun z=>w5 (by injection z)) (kC5 _ _ ?_)
 refine⟨_,rfl,_,rfl,_,rfl,pp,_,rfl,B.hP,fun pb1 Hb1 eb1 cb1=>?_⟩
 rw [eh (n:=at_)] at cb1
 replace B:=B.sm eb1
 obtain⟨ya,hya,lya⟩:=B.al.at hxa
 refine⟨_,rfl,_,rfl,_,rfl,_,rfl,pp,_,_,_,rfl,rfl,B.hP,bv hxa,t₁,s₁,.ref pw,xa,ws,ya,rfl,B.T,B.wv,w9,lya,lok ya (List.mem_of_getElem? hya),fun ub2 db2 Hb2 Sb2 Tb2 Db2 Gb2 Pb2=>?_⟩
 replace B:=B.st Sb2 Tb2
 replace cb1:=tP Sb2 cb1
 have mb2:=Mn.one Db2 Gb2 Pb2
 refine⟨iS,fun pb3 gb3=>?_⟩
 generalize hG:upd Hb2 pb3 (.tup [ub2])=Hb3
 obtain⟨eb3,hb3,nb3,B⟩:=B.nw hG gb3
 replace mb2:=mb2.sm eb3
 replace cb1:=tS eb3 cb1
 clear hG gb3 eb3
 replace hb3:=aZ.of (K:=K) hb3
 refine⟨pb1,pb3,_,_,rfl,rfl,cb1,hb3,Nat.le_trans (show _≤1000 by simp only [List.length_take,List.length_drop,List.length_append,List.length_cons,List.length_nil];omega) dI,fun pb4 Hb4 eb4 cb4=>?_⟩
 replace B:=B.sm eb4
 replace mb2:=mb2.sm eb4
 replace cb1:=tS eb4 cb1
 replace hb3:=tS eb4 hb3
 refine⟨_,rfl,_,rfl,_,_,rfl,rfl,_,rfl,pp,_,rfl,B.hP,fun pb5 Hb5 eb5 cb5=>?_⟩
 rw [show (some ((at_:Int)+1):Option Int)=some ((at_+1:Nat):Int) from rfl,dq (n:=at_+1)] at cb5
 replace B:=B.sm eb5
 replace mb2:=mb2.sm eb5
 replace cb4:=tS eb5 cb4
 refine⟨pb4,pb5,_,_,rfl,rfl,cb4,cb5,Nat.le_trans (show _≤1000 by simp only [List.length_take,List.length_drop,List.length_append,List.length_cons,List.length_nil];omega) dI,fun pb6 Hb6 eb6 cb6=>?_⟩
 replace B:=B.sm eb6
 replace mb2:=mb2.sm eb6
 replace cb4:=tS eb6 cb4
 replace cb5:=tS eb6 cb5
 have M:=B.mn lok w9
 obtain⟨d,q1,q2,q3⟩:=Tg.tup (((M.take at_).app mb2).app (M.drop (at_+1))) B.T.lst cb6 (by simp only [List.length_append,List.length_take,List.length_drop,List.length_cons,List.length_nil,List.length_reverse];omega)
 exact k _ d _ B.S B.T q1 q2 q3
theorem jx (T:eR K mg t):bK P w K mg base d9 2 t.a_Q23 t.d_Q23 ["self", "word", "number"] (oB K t.c_Q23):=by
 refine T.F_Q23.ok Bu (fun vs H Q E h=>?_) (fun cdv A outer s H vs Q E hr h=>?_)
 ·obtain⟨_,_,_,rfl,_⟩:=h;rfl
 obtain⟨a,x,n,rfl,ha,k⟩:=h
 refine dU.ok (ag (tK rfl (qv 0) (dA (xc T) hr T.m_Q43 T.F_Q43.kp T.b_Q43 (aa (qv 1) ad ac)) rfl)
   (ah (tK rfl (qv 0) (dA (xc T) hr T.m_Q43 T.F_Q43.kp T.b_Q43 (aa (qv 2) ad ac)) rfl))) ?_
 try dsimp only [Cx.nox,Cx.wish,bP]
 refine⟨_,rfl,_,rfl,.inr ⟨x,rfl⟩,_,rfl,a,_,_,rfl,T.X_Q23.cl,T.n_Q23_word,.inl ⟨ha,fun d hd nd=>?_⟩⟩
 have ha2:upd (upd H a (jl a t.c_Q23 (some d))) d (dO d [("word", .str x)]) a=some (jl a t.c_Q23 (some d)):=by rw [aJ nd.symm,af]
 refine⟨_,rfl,_,rfl,.inl ⟨n,rfl⟩,_,rfl,a,_,_,rfl,T.X_Q23.cl,T.n_Q23_number,.inr ⟨d,_,ha2,af,by show 1≤100;decide,?_⟩⟩
 have hd0:H d=none:=hd
 refine k d _ hd0 nd (fun b o nb q=>?_) (by rw [aJ nd.symm];exact ha2) af
 have nbd:b≠d:=aV q hd0
 rw [aJ nbd,aJ nbd,aJ nb]
 exact q
theorem Cs (T:eR K mg t):bK P w K mg base (yy P w) 4 t.a_Q26 t.d_Q26 ["works", "paper"] (qi K t.c_Q23):=by
 refine B.Fun.okD T.F_Q26 rQ (fun vs H Q E h=>?_) (fun cdv A outer s H vs Q E hr h=>?_)
 ·obtain⟨_,_,_,_,rfl,_⟩:=h;rfl
 obtain⟨v,c,ws,p,rfl,a,k,ke⟩:=h
 refine dU.ok (ag (cV 2 rQ.nd (dA (xk T) hr T.m_Q11 T.F_Q11.kp T.b_Q11 (aa (bR (N':=["layer"]) (src:=[none]) rfl (by exact (cO (qv 1))) (fun _ _ _ _ _=>(by exact (by exact aG (i:=0) (by show List.Nodup (["layer"]:List Str);decide +kernel) (by exact rfl) (by first | exact Or.inl rfl | exact Or.inr rfl)))) (fun _ _ _ _ _=>cK) (fun _ _ _ _ _=>(by exact (by exact (cj (bG (K:=K) (by exact rfl)) (by exact (qv 0)) ae (by exact fun _ _=>rfl))))) (by exact trivial) rfl (by decide +kernel) rfl (by decide +kernel) (by exact bz rfl trivial)) ad cM)))
   (ag (bh (aH oR (qv 2) dM (aK _)) (ah (ei T.X_Q23 (jn _) rfl jo (jx T) (hr.mono (by decide)) T.b_Q23 rfl T.m_Q23 (aa dC (aa (qv 2) ad ac) ap))) aE)
   (ag (cV 2 rQ.nd (dA (xk T) hr T.m_Q11 T.F_Q11.kp T.b_Q11 (aa (bR (N':=["layer"]) (src:=[none]) rfl (by exact (cO (qv 1))) (fun _ _ _ _ _=>(by exact (by exact aG (i:=0) (by show List.Nodup (["layer"]:List Str);decide +kernel) (by exact rfl) (by first | exact Or.inl rfl | exact Or.inr rfl)))) (fun _ _ _ _ _=>cK) (fun _ _ _ _ _=>(by exact (by exact (cj (bG (K:=K) (by exact rfl)) (by exact (qv 0)) ae (by exact fun _ _=>rfl))))) (by exact trivial) rfl (by decide +kernel) rfl (by decide +kernel) (by exact bz rfl trivial)) ad cM)))
   (ag (bh (aH oR (qv 2) dM (aK _)) (ah (ei T.X_Q23 (jn _) rfl jo (jx T) (hr.mono (by decide)) T.b_Q23 rfl T.m_Q23 (aa dC (aa (qv 2) ad ac) ap))) aE)
   (ah (bh (aH i0 (aj (jC rfl) (by rfl) T.z_sum boot_sum (aa (bR (N':=["layer"]) (src:=[none]) rfl (by exact (cO (qv 1))) (fun _ _ _ _ _=>(by exact (by exact aG (i:=0) (by show List.Nodup (["layer"]:List Str);decide +kernel) (by exact rfl) (by first | exact Or.inl rfl | exact Or.inr rfl)))) (fun _ _ _ _ _=>cK) (fun _ _ _ _ _=>(by exact (by exact (aj (nO (K:=K) (by exact rfl)) (by exact rfl) T.z_len boot_len (aa (by exact (cj (bG (K:=K) (by exact rfl)) (by exact (qv 0)) ae (by exact fun _ _=>rfl))) ad aD))))) (by exact trivial) rfl (by decide +kernel) rfl (by decide +kernel) (by exact bz rfl trivial)) ad cM)) (aj ar (by rfl) T.z_len boot_len (aa (qv 0) ad ac)) (aK _)) (ah (ei T.X_Q23 (jn _) rfl jo (jx T) (hr.mono (by decide)) T.b_Q23 rfl T.m_Q23 (aa dC (aa (fH dJ ae) ad eW) ap))) aE)))))) ?_
 try dsimp only [Cx.nox,Cx.wish,bP]
 obtain⟨pc,xs,rfl,hS,al⟩:=id a.lv
 have len:=al.len
 have p30:=a.p30
 have rows:∀ {H1:Hp} (s1:aw H H1),aZ K H1 pc xs/\cL (gR K H1) xs p:=fun s1=>⟨bn.same (K:=K) s1 _ _ hS,al.mono fun _ _ q=>q.mono (bn.same s1)⟩
 refine⟨_,rfl,pc,rfl,⟨_,hS⟩,fun D hD=>fM (K:=K) (P:=Dh K) (ds:=p) (f:=fun y=>y.1) (fun _ _ _ _ t p=>p.mono t) hD hS len (by omega) (fun i x y H' hx hd s' R E kR=>?_) fun H1 ys s1 h1 al1=>?_⟩
 ·obtain⟨y',hy',pL,a_,b_,rfl,hpL,ha,hb⟩:=al.at hx
  rw [hd] at hy'
  cases hy'
  have t':=bn.same (K:=K) s'
  exact⟨ji.set rfl,_,rfl,pL,_,_,_,rfl,rfl,t' _ _ hpL,rfl,kR _ _ (aw.refl _) ⟨a_,rfl,t' _ _ ha⟩⟩
 refine⟨D,ys,p.map (fun y:Ly=>y.1),rfl,bj.of h1,al1,fun r hr=>?_,by rw [List.length_map];exact p30,fun H2 s2=>?_⟩
 ·obtain⟨y,hy,rfl⟩:=List.mem_map.mp hr
  exact (a.rs y hy).f1
 have s12:=s1.trans s2
 cases c1:dS (p.map fun y:Ly=>y.1) with
 | some n=>
  refine⟨_,rfl,rfl,_,rfl,lz (fun z=>by cases z) ?_⟩
  refine⟨_,rfl,dE,fun x hx=>⟨x,_,_,rfl,af,fun d' H' hd nd kp ha hd'=>⟨rfl,some d',ha,?_⟩⟩⟩
  exact ke _ _ (by unfold gl;rw [c1]) d' _ (s12.trans (dB hx kp)) (by rw [eK nd];exact hd')
 | none=>
 refine⟨_,rfl,rfl,_,rfl,f9 rfl ?_⟩
 obtain⟨hS2,al2⟩:=rows s12
 refine⟨_,rfl,pc,rfl,⟨_,hS2⟩,fun D2 hD2=>fM (K:=K) (P:=Dh K) (ds:=p) (f:=fun y=>y.2) (fun _ _ _ _ t p=>p.mono t) hD2 hS2 len (by omega) (fun i x y H' hx hd s' R E kR=>?_) fun H3 ys3 s3 h3 al3=>?_⟩
 ·obtain⟨y',hy',pL,a_,b_,rfl,hpL,ha,hb⟩:=al2.at hx
  rw [hd] at hy'
  cases hy'
  have t':=bn.same (K:=K) s'
  exact⟨ji.set rfl,_,rfl,pL,_,_,_,rfl,rfl,t' _ _ hpL,rfl,kR _ _ (aw.refl _) ⟨b_,rfl,t' _ _ hb⟩⟩
 refine⟨D2,ys3,p.map (fun y:Ly=>y.2),rfl,bj.of h3,al3,fun r hr=>?_,by rw [List.length_map];exact p30,fun H4 s4=>?_⟩
 ·obtain⟨y,hy,rfl⟩:=List.mem_map.mp hr
  have:=(a.rs y hy).f2
  have:=a.w9
  omega
 have s14:=(s12.trans s3).trans s4
 cases c2:dS (p.map fun y:Ly=>y.2) with
 | some n=>
  refine⟨_,rfl,rfl,_,rfl,lz (fun z=>by cases z) ?_⟩
  refine⟨_,rfl,dE,fun x hx=>⟨x,_,_,rfl,af,fun d' H' hd nd kp ha hd'=>⟨rfl,some d',ha,?_⟩⟩⟩
  exact ke _ _ (by unfold gl;rw [c1,c2]) d' _ (s14.trans (dB hx kp)) (by rw [eK nd];exact hd')
 | none=>
 refine⟨_,rfl,rfl,_,rfl,f9 rfl ?_⟩
 obtain⟨hS4,al4⟩:=rows s14
 refine⟨_,rfl,pc,rfl,⟨_,hS4⟩,fun D5 hD5=>cH (fR hS4) (fun _=>true) (fun i=>V.int ((p.getD i ([],[])).2.length:Int)) hD5 (by omega) (fun i x H' hi s' hx R E kR kE=>?_) fun H5 s5 h5=>?_⟩
 ·obtain⟨y,hy,pL,a_,b_,rfl,hpL,ha,hb⟩:=al4.at hx
  rw [aN (([],[]):Ly) hy] at kR
  have t':=bn.same (K:=K) s'
  have nb:(au y.2).length=y.2.length:=List.length_map _
  rw [← nb] at kR
  exact⟨ji.set rfl,_,rfl,pL,_,_,_,rfl,rfl,t' _ _ hpL,rfl,b_,_,rfl,.inr (t' _ _ hb),kR rfl _ (aw.refl _)⟩
 have e5:(((List.range xs.length).filter fun _=>true).map fun i=>V.int ((p.getD i ([],[])).2.length:Int))=(p.map fun y=>(y.2.length:Int)).map V.int:=by
  rw [List.filter_eq_self.mpr (fun _ _=>rfl),len,List.map_map]
  refine List.ext_getElem (by simp) fun i h1 h2=>?_
  have hi:i < p.length:=by simpa using h2
  simp [List.getD_eq_getElem?_getD,hi]
 rw [e5] at h5
 have s15:=s14.trans s5
 have a5:=a.same s15
 obtain⟨pw,xw,rfl,hW,alW⟩:=a5.wv
 have lw:=alW.len
 refine⟨D5,_,rfl,bj.of h5,_,rfl,pw,_,rfl,.inr hW,_,_,rfl,rfl,_,rfl,?_⟩
 rw [lw]
 by_cases c3:(p.map fun y=>(y.2.length:Int)).sum < (ws.length:Int)
 ·refine cv c3 ?_
  refine⟨_,rfl,dE,fun x hx=>⟨x,_,_,rfl,af,fun d' H' hd nd kp ha hd'=>⟨rfl,some d',ha,?_⟩⟩⟩
  exact ke _ _ (by unfold gl qD;rw [c1,c2,decide_eq_true c3];rfl) d' _ (s15.trans (dB hx kp)) (by rw [eK nd];exact hd')
 ·refine bO c3 ?_
  exact k (by unfold gl qD;rw [c1,c2,decide_eq_false c3];rfl) _ s15
theorem CF (T:eR K mg t):bK P w K mg base (yy P w) 4 t.a_Q12 t.d_Q12 ["works", "paper"] (kA K t.c_Q23):=by
 refine B.Fun.okD T.F_Q12 iH (fun vs H Q E h=>?_) (fun cdv A outer s H vs Q E hr h=>?_)
 ·obtain⟨_,_,_,_,rfl,_⟩:=h;rfl
 obtain⟨v,c,ws,p,rfl,a,k,ke⟩:=h
 refine dU.ok (ag (cV 2 iH.nd kJ)
   (ah (bZ PassesOwn.leaving rfl (yU rfl T.z_enumerate (aa (qv 1) ad ac)) (jw rfl (cT (aG (i:=3) iH.nd rfl (by first | exact Or.inl rfl | exact Or.inr rfl)) (cT (aG (i:=4) iH.nd rfl (by first | exact Or.inl rfl | exact Or.inr rfl)) gY)))
   (ag (bZ PassesOwn.leaving rfl (cO (bX ay (qv 4) ae)) (aG (i:=5) iH.nd rfl (by first | exact Or.inl rfl | exact Or.inr rfl))
   (ah (oN (nI hr) (qv 2) (qv 5) cW rfl)))
   (ah (bZ PassesOwn.leaving rfl (cO (bX ay (qv 4) ae)) (aG (i:=6) iH.nd rfl (by first | exact Or.inl rfl | exact Or.inr rfl))
   (ag (cV 7 iH.nd (bX ay (qv 0) (qv 6)))
   (ah (bh (ee (bV (aj (fP rfl) (by rfl) T.z_all boot_all (aa (bR (N':=["turn", "seen"]) (src:=[none,some 2]) rfl (by exact (ej rfl T.z_range (aa (bX ay (qv 7) ae) (aa (aB cI (bX ay (qv 7) ae) ae) ad aX) aD))) (fun _ _ _ _ _=>(by exact (by exact aG (i:=0) (by show List.Nodup (["turn", "seen"]:List Str);decide +kernel) (by exact rfl) (by first | exact Or.inl rfl | exact Or.inr rfl)))) (fun _ _ _ _ _=>cK) (fun _ _ _ _ _=>(by exact (by exact (wl (by exact nI hr) (by exact (qv 0)) (by exact (qv 1)) (by with_unfolding_all rfl))))) (by exact⟨rfl,rfl,rfl,rfl,trivial⟩) rfl (by decide +kernel) rfl (by decide +kernel) (by exact bz rfl ⟨rfl,trivial⟩)) ad cM)))) (ah (ei T.X_Q23 (jn _) rfl jo (jx T) (hr.mono (by decide)) T.b_Q23 rfl T.m_Q23 (aa dC (aa (qv 3) ad ac) ap))) aE))))))))) ?_
 try dsimp only [Cx.nox,Cx.wish,bP]
 obtain⟨pc,xs,rfl,hS,al⟩:=id a.lv
 obtain⟨pw,xw,rfl,hW,alW⟩:=id a.wv
 have len:=al.len
 have lw:=alW.len
 have p30:=a.p30
 intro q hq
 have s0:=ak hq (.dK [])
 refine⟨_,rfl,pc,rfl,⟨_,bn.same (K:=K) s0 _ _ hS⟩,xU (K:=K) (a:=pc) (xs:=xs) (fun i σ H'=>∃ (x3 x4 x5 x6 x7:Option V) (kvs:List (cZ×V)),σ=[some (.ref pw),some (.ref pc),some (.ref q),x3,x4,x5,x6,x7]/\aw H H'/\H' q=some (.dK kvs)/\lL kvs (bC (p.take i))/\(bC (p.take i)).length≤24 * i/\∀ m,m < i->pE ws p m=false) ⟨none,none,none,none,none,[],rfl,s0,af,lL.nil,Nat.zero_le _,fun m hm=>absurd hm (Nat.not_lt_zero _)⟩ (fun i σ H1 _ ⟨_,_,_,_,_,_,_,sm,_⟩=>bn.same (K:=K) sm _ _ hS) ?_ ?_⟩
 ·rintro i x pt σ H2 hx ⟨x3,x4,x5,x6,x7,kvs,rfl,sm,hd,sn,l24,gd⟩ hpt
  obtain⟨y,hy,pL,a_,b_,rfl,hpL,ha,hb⟩:=al.at hx
  have hil:=(List.getElem?_eq_some_iff.mp hy).1
  have rs:=a.rs y (List.mem_of_getElem? hy)
  have f1:=rs.f1
  have gy:p.getD i ([],[])=y:=aN _ hy
  have n1:(au y.1).length=y.1.length:=List.length_map _
  have n2:(au y.2).length=y.2.length:=List.length_map _
  have ft:bC (p.take (i+1))=bC (p.take i)++y.1:=by unfold bC;rw [List.take_add_one,hy,List.flatMap_append];simp
  have e1:=ak hpt (.tup [.int i,.ref pL])
  refine⟨pt,_,rfl,aZ.of af,rfl,_,_,rfl,_,_,rfl,rfl,?_⟩
  have sm1:=sm.trans e1
  have hd1:=e1 _ _ hd
  generalize upd H2 pt (.tup [.int i,.ref pL])=H3 at sm1 hd1 ⊢
  have t3:=bn.same (K:=K) sm1
  refine⟨_,rfl,pL,_,_,_,rfl,rfl,t3 _ _ hpL,rfl,a_,rfl,⟨_,t3 _ _ ha⟩,fj (K:=K) (a:=a_) (xs:=au y.1) (fun j σ H'=>∃ (x5:Option V) (kvs:List (cZ×V)),σ=[some (.ref pw),some (.ref pc),some (.ref q),some (.int (i:Int)),some (.ref pL),x5,x6,x7]/\aw H H'/\H' q=some (.dK kvs)/\lL kvs (bC (p.take i)++y.1.take j)) ⟨x5,kvs,rfl,sm1,hd1,by rw [List.take_zero,List.append_nil];exact sn⟩ (fun j σ H1 _ ⟨_,_,_,sm,_⟩=>bn.same (K:=K) sm _ _ ha) ?_ ?_⟩
  ·rintro j x σ H5 hx ⟨x5,kvs,rfl,sm5,hd5,sn5⟩
   have hjl:j < y.1.length:=by have:=(List.getElem?_eq_some_iff.mp hx).1;omega
   have b1:(au y.1)[j]?=some (V.int (y.1[j]:Nat)):=by unfold au;rw [List.getElem?_map,List.getElem?_eq_getElem hjl];rfl
   rw [hx] at b1
   cases b1
   have ls:=sn5.len
   rw [List.length_append] at ls
   have lt:=List.length_take_le j y.1
   have hlp:kvs.length < sizeLine:=cF (by omega)
   refine⟨_,rfl,_,rfl,q,_,rfl,rc.k (k:=Sum.inl ((y.1[j]:Nat):Int)) hd5 hlp,?_⟩
   refine⟨_,_,rfl,fun b o e=>?_,af,?_⟩
   ·rw [aJ (aV e hq)];exact sm5 _ _ e
   ·have:=sn5.put y.1[j] (.bl true)
    rw [List.append_assoc] at this
    rw [List.take_add_one,List.getElem?_eq_getElem hjl]
    exact this
  rintro σ H5 ⟨x5,kvs,rfl,sm5,hd5,sn5⟩
  rw [n1,List.take_length,← ft] at sn5
  have t5:=bn.same (K:=K) sm5
  refine⟨_,rfl,pL,_,_,_,rfl,rfl,t5 _ _ hpL,rfl,b_,rfl,⟨_,t5 _ _ hb⟩,fj (K:=K) (a:=b_) (xs:=au y.2) (fun j σ H'=>∃ (x6 x7:Option V),σ=[some (.ref pw),some (.ref pc),some (.ref q),some (.int (i:Int)),some (.ref pL),x5,x6,x7]/\aw H5 H'/\∀ m,m < j->i4 (bC (p.take (i+1))) (ws.getD (y.2.getD m 0) rg)=true) ⟨x6,x7,rfl,aw.refl _,fun m hm=>absurd hm (Nat.not_lt_zero _)⟩ (fun j σ H1 _ ⟨_,_,_,sm,_⟩=>bn.same (K:=K) sm _ _ (t5 _ _ hb)) ?_ ?_⟩
  ·rintro j x σ H6 hx ⟨x6,x7,rfl,s6,g6⟩
   have hjl:j < y.2.length:=by have:=(List.getElem?_eq_some_iff.mp hx).1;omega
   have b1:(au y.2)[j]?=some (V.int (y.2[j]:Nat)):=by unfold au;rw [List.getElem?_map,List.getElem?_eq_getElem hjl];rfl
   rw [hx] at b1
   cases b1
   have hnl:=rs.l2 _ (List.getElem_mem hjl)
   have hnx:y.2[j] < xw.length:=by rw [lw];exact hnl
   obtain⟨xv,hxv⟩:∃ xv,xw[y.2[j]]?=some xv:=⟨xw[y.2[j]],List.getElem?_eq_getElem hnx⟩
   obtain⟨w,hwd,pW,xa,rfl,hSw,rx⟩:=alW.at hxv
   have o:=a.ok w (List.mem_of_getElem? hwd)
   have ole:=o.le
   have olt:=o.lt
   have sm6:=sm5.trans s6
   have t6:=bn.same (K:=K) sm6
   have hd6:=s6 _ _ hd5
   refine⟨_,rfl,_,rfl,pw,_,_,_,rfl,rfl,t6 _ _ hW,bv hxv,?_⟩
   have e1:(((w.2.1:Nat):Int)+1 - ((w.1:Nat):Int)).toNat=w.2.1+1 - w.1:=by omega
   refine⟨_,rfl,pW,_,_,_,rfl,rfl,t6 _ _ hSw,rfl,_,rfl,pW,_,_,_,rfl,rfl,t6 _ _ hSw,rfl,_,_,rfl,rfl,_,_,rfl,?_,fun D hD=>?_⟩
   ·refine⟨by omega,by omega,by omega,by omega⟩
   rw [e1]
   refine cH (gT (lo:=((w.1:Nat):Int))) (fun _=>true) (fun m=>V.bl ((bC (p.take (i+1))).contains (w.1+m))) hD (by omega) (fun m x H' hi s' hx R E kR kE=>?_) fun H7 s7 h7=>?_
   ·subst hx
    refine⟨ji.set rfl,_,rfl,_,rfl,q,_,rfl,jH.k (k:=Sum.inl ((w.1:Int)+(m:Int))) (s' _ _ hd6),?_⟩
    rw [show (ef kvs (Sum.inl ((w.1:Int)+(m:Int)))).isSome=(bC (p.take (i+1))).contains (w.1+m) from sn5.has (w.1+m)]
    exact kR rfl _ (aw.refl _)
   rw [List.filter_eq_self.mpr (fun _ _=>rfl)] at h7
   refine⟨D,(List.range (w.2.1+1 - w.1)).map fun m=>(bC (p.take (i+1))).contains (w.1+m),rfl,bj.of (by rw [List.map_map];exact h7),⟨_,rfl,?_⟩⟩
   have le:((List.range (w.2.1+1 - w.1)).map fun m=>(bC (p.take (i+1))).contains (w.1+m)).all id=i4 (bC (p.take (i+1))) w:=by unfold i4;rw [List.all_map];rfl
   rw [le]
   have gw:ws.getD (y.2.getD j 0) rg=w:=by rw [aN 0 (List.getElem?_eq_getElem hjl)];exact aN _ hwd
   have sm7:=sm6.trans s7
   cases cl:i4 (bC (p.take (i+1))) w with
   | false=>
    refine cD ?_
    refine⟨_,rfl,dE,fun x hx=>⟨x,_,_,rfl,af,fun d' H' hd nd kp ha hd'=>⟨rfl,some d',ha,?_⟩⟩⟩
    have bw:pE ws p i=true:=by
     unfold pE
     rw [gy,List.any_eq_true]
     refine⟨y.2[j],List.getElem_mem hjl,?_⟩
     rw [aN rg hwd,cl]
     rfl
    exact ke _ _ (by unfold rh vI;rw [hX hil bw gd];rfl) d' _ (sm7.trans (dB hx kp)) (by rw [eK nd];exact hd')
   | true=>
    refine bS ⟨_,_,rfl,s6.trans s7,fun m hm=>?_⟩
    by_cases z:m < j
    ·exact g6 m z
    ·have:m=j:=by omega
     subst this
     rw [gw]
     exact cl
  ·rintro σ H6 ⟨x6,x7,rfl,s6,g6⟩
   refine⟨_,_,_,_,_,kvs,rfl,sm5.trans s6,s6 _ _ hd5,sn5,by rw [ft,List.length_append];omega,fun m hm=>?_⟩
   by_cases z:m < i
   ·exact gd m z
   ·have:m=i:=by omega
    subst this
    unfold pE
    rw [gy,List.any_eq_false]
    intro t ht
    obtain⟨j,hj,rfl⟩:=List.mem_iff_getElem.mp ht
    have:=g6 j (by omega)
    rw [aN 0 (List.getElem?_eq_getElem hj)] at this
    rw [this]
    exact Bool.false_ne_true
 ·rintro σ H2 ⟨x3,x4,x5,x6,x7,kvs,rfl,sm,hd,sn,l24,gd⟩
  exact k (by unfold rh vI;rw [hV fun j hj=>gd j (by omega)];rfl) _ sm
theorem Eu (T:eR K mg t):bK P w K mg base (yy P w) 5 t.a_Q6 t.d_Q6 ["works", "paper"] (jq K t.c_Q23):=by
 refine B.Fun.okD T.F_Q6 v7 (fun vs H Q E h=>?_) (fun cdv A outer s H vs Q E hr h=>?_)
 ·obtain⟨_,_,_,_,rfl,_⟩:=h;rfl
 obtain⟨v,c,ws,p,rfl,a,k,ke⟩:=h
 refine dU.ok (ag (iZ (i:=2) (N':=["layer", "works"]) (src:=[none,some 0]) v7.nd rfl (by first | exact Or.inl rfl | exact Or.inr rfl) rfl (by exact (cO (qv 1))) (fun _ _ _ _ _=>(by exact (by exact aG (i:=0) (by show List.Nodup (["layer", "works"]:List Str);decide +kernel) (by exact rfl) (by first | exact Or.inl rfl | exact Or.inr rfl)))) (fun _ _ _ _ _=>cK) (fun _ _ _ _ _=>(by exact (by exact (dP (Ev T) (by exact hr.mono (by decide)) (by exact rfl) T.m_Q5 T.F_Q5.kp T.b_Q5 (by exact .nil) (by exact jK) (aa (by exact (qv 1)) (aa (by exact (qv 0)) ad ac) ac))))) (by exact⟨rfl,rfl,rfl,rfl,trivial⟩) rfl (by decide +kernel) rfl (by decide +kernel) (by exact bz rfl ⟨rfl,trivial⟩))
   (ah (bZ PassesOwn.leaving rfl (ej rfl T.z_range (aa ae (aa (aj ar (by rfl) T.z_len boot_len (aa (qv 2) ad ac)) ad ao) ap)) (aG (i:=3) v7.nd rfl (by first | exact Or.inl rfl | exact Or.inr rfl))
   (ah (bh (bV (dA (Cp T) hr T.m_Q33 T.F_Q33.kp T.b_Q33 (aa (bX bH (qv 2) (aB fS (qv 3) ae)) (aa (bX bH (qv 2) (qv 3)) ad aD) aD))) (ah (ei T.X_Q23 (jn _) rfl jo (jx T) (hr.mono (by decide)) T.b_Q23 rfl T.m_Q23 (aa dC (aa (qv 3) ad ac) ap))) aE))))) ?_
 try dsimp only [Cx.nox,Cx.wish,bP]
 obtain⟨pc,xs,rfl,hS,al⟩:=id a.lv
 have len:=al.len
 have p30:=a.p30
 have w9:=a.w9
 refine⟨_,rfl,pc,rfl,⟨_,hS⟩,fun D hD=>fM (K:=K) (P:=RV K) (ds:=p) (f:=ku ws) (fun _ _ _ _ t p=>p.mono t) hD hS len (by omega) (fun i x y H' hx hd s' R E kR=>?_) fun H1 ys s1 h1 al1=>?_⟩
 ·obtain⟨y',hy',ly⟩:=al.at hx
  rw [hd] at hy'
  cases hy'
  have t':=bn.same (K:=K) s'
  exact⟨ji.set rfl,_,rfl,_,rfl,v,x,ws,y,rfl,a.wv.mono t',by omega,a.ok,ly.mono t',(a.rs y (List.mem_of_getElem? hd)).ok,fun u H5 s5 r5=>kR _ _ s5 r5⟩
 have ly:=al1.len
 rw [List.length_map] at ly
 refine⟨_,rfl,D,_,rfl,.inl (bj.of h1),_,_,rfl,?_,dk (lo:=1) (n:=((ys.length:Int) - 1).toNat) (fun i σ H'=>∃ (x3:Option V),σ=[some v,some (.ref pc),some (.ref D),x3]/\aw H1 H'/\∀ m,m < i->ja ws p m=false) ⟨none,rfl,aw.refl _,fun m hm=>absurd hm (Nat.not_lt_zero _)⟩ ?_ ?_⟩
 ·refine⟨by omega,by omega,by omega,by omega⟩
 ·rintro i σ H2 hi ⟨x3,rfl,s2,gd⟩
  have h2:=s2 _ _ h1
  have hi1:i+1 < p.length:=by omega
  obtain⟨xa,hxa⟩:∃ x,ys[i]?=some x:=⟨_,List.getElem?_eq_getElem (by omega)⟩
  obtain⟨xb,hxb⟩:∃ x,ys[i+1]?=some x:=⟨_,List.getElem?_eq_getElem (by omega)⟩
  obtain⟨ra,hra,rva⟩:=al1.at hxa
  obtain⟨rb,hrb,rvb⟩:=al1.at hxb
  have ea:p[i]?=some (p[i]'(by omega)):=List.getElem?_eq_getElem _
  have eb:p[i+1]?=some (p[i+1]'hi1):=List.getElem?_eq_getElem _
  rw [List.getElem?_map,ea] at hra
  rw [List.getElem?_map,eb] at hrb
  cases hra
  cases hrb
  have ga:p.getD i ([],[])=p[i]'(by omega):=aN _ ea
  have gb:p.getD (i+1) ([],[])=p[i+1]'hi1:=aN _ eb
  have c1:jm ys (1+(i:Int) - 1)=some xa:=by rw [show 1+(i:Int) - 1=((i:Nat):Int) by omega];exact bv hxa
  have c2:jm ys (1+(i:Int))=some xb:=by rw [show 1+(i:Int)=((i+1:Nat):Int) by omega];exact bv hxb
  have t2:=bn.same (K:=K) s2
  have oa:=j4 a.ok w9 (a.rs _ (List.mem_of_getElem? ea)).ok
  have ob:=j4 a.ok w9 (a.rs _ (List.mem_of_getElem? eb)).ok
  refine⟨_,rfl,_,rfl,_,_,rfl,rfl,D,_,_,_,rfl,rfl,bj.of h2,c1,_,rfl,_,rfl,D,_,_,_,rfl,rfl,bj.of h2,c2,xa,xb,_,_,40,40,rfl,rva.mono t2,rvb.mono t2,oa,ob,by decide,_,rfl,?_⟩
  have fb:ja ws p i=gD (ku ws (p[i]'(by omega))) (ku ws (p[i+1]'hi1)):=by unfold ja;rw [ga,gb]
  rw [← fb]
  cases c:ja ws p i with
  | true=>
   refine cD ?_
   refine⟨_,rfl,dE,fun x hx=>⟨x,_,_,rfl,af,fun d' H' hd nd kp ha hd'=>⟨rfl,some d',ha,?_⟩⟩⟩
   exact ke _ _ (by unfold vk qN;rw [hX (i:=i) (by omega) c gd];rfl) d' _ ((s1.trans s2).trans (dB hx kp)) (by rw [eK nd];exact hd')
  | false=>
   refine bS ⟨_,rfl,s2,fun m hm=>?_⟩
   by_cases z:m < i
   ·exact gd m z
   ·have:m=i:=by omega
    subst this
    exact c
 ·rintro σ H2 ⟨x3,rfl,s2,gd⟩
  exact k (by unfold vk qN;rw [hV fun j hj=>gd j (by omega)];rfl) _ (s1.trans s2)
theorem Ew (T:eR K mg t):bK P w K mg base (yy P w) 6 t.a_Q4 t.d_Q4 ["works", "thing"] (iV K t.c_Q23):=by
 refine B.Fun.okD T.F_Q4 DS (fun vs H Q E h=>?_) (fun cdv A outer s H vs Q E hr h=>?_)
 ·obtain⟨_,_,_,_,rfl,_⟩:=h;rfl
 obtain⟨v,c,ws,d,rfl,a,k,ke⟩:=h
 refine dU.ok (ag (bh (ee (bV (dA (Ex T) hr T.m_Q3 T.F_Q3.kp T.b_Q3 (aa (qv 1) (aa (aj ar (by rfl) T.z_len boot_len (aa (qv 0) ad ac)) ad ao) ac)))) (ah (ei T.X_Q23 (jn _) rfl jo (jx T) (hr.mono (by decide)) T.b_Q23 rfl T.m_Q23 (aa dC (aa (fH dJ ae) ad eW) ap))) aE)
   (ag (dh (dP (Cs T) (hr.mono (by decide)) rfl T.m_Q26 T.F_Q26.kp T.b_Q26 .nil wX (aa (qv 0) (aa (qv 1) ad ac) ac)))
   (ag (dh (dP (CF T) (hr.mono (by decide)) rfl T.m_Q12 T.F_Q12.kp T.b_Q12 .nil wX (aa (qv 0) (aa (qv 1) ad ac) ac)))
   (ag (dh (dP (Eu T) (hr.mono (by decide)) rfl T.m_Q6 T.F_Q6.kp T.b_Q6 .nil wX (aa (qv 0) (aa (qv 1) ad ac) ac)))
   (ah (aC cW)))))) ?_
 try dsimp only [Cx.nox,Cx.wish,bP]
 obtain⟨pw,xw,rfl,hW,alW⟩:=id a.wv
 have lw:=alW.len
 refine⟨_,rfl,_,rfl,pw,_,rfl,.inr hW,c,d,xw.length,rfl,a.dp,a.wd,fun H1 s1=>⟨_,rfl,?_⟩⟩
 rw [lw]
 cases cs:oQ ws.length d with
 | false=>
  refine cD ?_
  refine⟨_,rfl,dE,fun x hx=>⟨x,_,_,rfl,af,fun d' H' hd nd kp ha hd'=>⟨rfl,some d',ha,?_⟩⟩⟩
  exact ke _ _ (mf cs) d' _ (s1.trans (dB hx kp)) (by rw [eK nd];exact hd')
 | true=>
 refine bS ?_
 have a1:=a.same s1
 obtain⟨lv,rs,pl⟩:=Ca a1.dp cs
 have pap:EX K H1 (.ref pw) c ws (ir d):=⟨a1.wv,a.w9,a.ok,lv,rs,by rw [pl];exact a.wd.1⟩
 have vm:jS ws d=ij ws (ir d):=by unfold jS;rw [cs];rfl
 rw [vm] at k ke
 refine⟨_,rfl,_,rfl,.ref pw,c,ws,ir d,rfl,pap,fun n1 H2 s2=>?_,fun z n e dd H2 s2 hd=>ke z n (by unfold ij;rw [e]) dd _ (s1.trans s2) hd⟩
 refine⟨_,rfl,_,rfl,.ref pw,c,ws,ir d,rfl,pap.same s2,fun n2 H3 s3=>?_,fun z n e dd H3 s3 hd=>ke z n (by unfold ij;rw [n1,e]) dd _ ((s1.trans s2).trans s3) hd⟩
 refine⟨_,rfl,_,rfl,.ref pw,c,ws,ir d,rfl,(pap.same s2).same s3,fun n3 H4 s4=>?_,fun z n e dd H4 s4 hd=>ke z n (by unfold ij;rw [n1,n2,e]) dd _ (((s1.trans s2).trans s3).trans s4) hd⟩
 exact k (by unfold ij;rw [n1,n2,n3]) _ (((s1.trans s2).trans s3).trans s4)
theorem Cv (T:eR K mg t):bK P w K mg base d9 7 t.a_Q21 t.d_Q21 ["_law_works_here", "_law_thing"] (oo K t.c_Q23):=by
 refine T.F_Q21.ok kD (fun vs H Q E h=>?_) (fun cdv A outer s H vs Q E hr h=>?_)
 ·obtain⟨_,_,_,_,rfl,_⟩:=h;rfl
 obtain⟨v,c,ws,d,rfl,a,k⟩:=h
 refine dU.ok (ag (cV 2 kD.nd (az (aa dM (aa (bD ad) ad gg) ap)))
   (ag (we (i:=3) (R:=(fun C dx H'=>C=t.c_Q23/\aw H H'/\∃ (dd:Addr) (z:Str) (n:Int),dx=some dd/\H' dd=some (dO dd [("number", .int n),("word", .str z)])/\jS ws d=some (z,n))) rfl rfl rfl rfl T.m_Q24 kD.nd rfl rfl (fun _=>(ah (cV 2 kD.nd (az (aa (dP (Ew T) (hr.mono (by decide)) rfl T.m_Q4 T.F_Q4.kp T.b_Q4 .nil (B8 rfl) (aa (qv 0) (aa (qv 1) ad ac) ac)) (aa (bD ad) ad gg) ao)))))
   (fun _=>(ah (cV 2 kD.nd (az (aa (qv 3) (aa (ww (Cw T) (by exact hr.inM (by decide)) rfl T.m_Q20 T.F_Q20.kp T.b_Q20 .nil jK (aa (qv 3) ad ac)) ad ao) ac))))))
   (ah (aC (qv 2))))) ?_
 try dsimp only [Cx.nox,Cx.wish,bP]
 refine⟨(by show 0≤sizeLine;exact Nat.zero_le _),fun l0 h0=>⟨dE,fun p0 g0=>?_⟩⟩
 have s0:=(ak h0 (.lst [])).trans (ak g0 (.tup [.non,.ref l0]))
 generalize upd (upd H l0 (.lst [])) p0 (.tup [.non,.ref l0])=H0 at s0 ⊢
 refine⟨⟨_,rfl,_,rfl,v,c,ws,d,rfl,a.same s0,fun du H1 s1=>⟨(by show 0≤sizeLine;exact Nat.zero_le _),fun l1 h1=>⟨dE,fun p1 g1=>?_⟩⟩,fun z n du dd H1 s1 hd=>⟨_,rfl,rfl,s0.trans s1,dd,z,n,rfl,hd,du⟩⟩,?_⟩
 ·have sa:=ak h1 (.lst [])
  have sb:=ak g1 (.tup [.bl true,.ref l1])
  refine⟨_,rfl,k _ _ (((s0.trans s1).trans sa).trans sb) ?_⟩
  rw [du]
  exact⟨p1,l1,rfl,aZ.of af,sb _ _ af⟩
 rintro C dx H' ⟨rfl,s1,dd,z,n,rfl,hd,du⟩
 refine⟨T.x_catch,dd,rfl,fun x hx=>?_⟩
 have s2:=ak hx (vG x t.c_Q23 dd)
 have ex:=af (H:=H') (a:=x) (o:=vG x t.c_Q23 dd)
 have ed:=s2 _ _ hd
 generalize upd H' x (vG x t.c_Q23 dd)=H2 at s2 ex ed ⊢
 refine⟨_,rfl,_,rfl,x,dd,_,rfl,ex,ed,fun l H3 s3 hl=>⟨dE,fun p4 g4=>?_⟩⟩
 have s4:=ak g4 (.tup [.ref x,.ref l])
 refine⟨_,rfl,k _ _ (((s1.trans s2).trans s3).trans s4) ?_⟩
 rw [du]
 exact⟨p4,l,x,dd,rfl,aZ.of af,s4 _ _ (s3 _ _ ex),s4 _ _ (s3 _ _ ed),s4 _ _ hl⟩
theorem Cu (T:eR K mg t):bK P w K mg base d9 8 t.a_Q22 t.d_Q22 ["_law_works_here", "_law_thing"] (oq K):=by
 refine T.F_Q22.ok kC (fun vs H Q E h=>?_) (fun cdv A outer s H vs Q E hr h=>?_)
 ·obtain⟨_,_,_,_,rfl,_⟩:=h;rfl
 obtain⟨v,c,ws,d,rfl,a,k⟩:=h
 refine dU.ok (ag (cV 2 kC.nd (dA (Cy T) hr T.m_Q19 T.F_Q19.kp T.b_Q19 (aa (qv 0) (aa (qv 1) ad ac) ac)))
   (ag (cV 3 kC.nd (aj (nN hr) (by rfl) T.z_repr boot_repr (aa (az (aa (qv 0) (aa (qv 1) ad ac) ac)) ad aF)))
   (ag (jv (dA (Cv T) hr T.m_Q21 T.F_Q21.kp T.b_Q21 (aa (qv 0) (aa (qv 1) ad ac) ac)) (jw rfl (cT (aG (i:=4) kC.nd rfl (by first | exact Or.inl rfl | exact Or.inr rfl)) (cT (aG (i:=5) kC.nd rfl (by first | exact Or.inl rfl | exact Or.inr rfl)) gY))))
   (ag (bh (aH iu (aj (nN hr) (by rfl) T.z_repr boot_repr (aa (az (aa (qv 0) (aa (qv 1) ad ac) ac)) ad aF)) (qv 3) (aK _)) (ah (aC cW)) aE)
   (ag (bh (aH kQ (qv 2) dM (aK _)) (ah (aC (dr (cG (oV hr) (qv 5) (bD ad) (aK _)) (dW (cG Ce (qv 4) cW (aK _)))))) aE)
   (ah (aC (dr (cG (oV hr) (qv 5) (bD (aa cW (aa cW (aa cW (aa cW ad ap) ap) ap) ap)) (aK _)) (dW (dA (CB T) hr T.m_Q16 T.F_Q16.kp T.b_Q16 (aa (qv 2) (aa (az (aa (tL (K:=K) rfl (qv 4) rfl) (aa (tL (K:=K) rfl (qv 4) rfl) ad pY) pY)) ad aF) ac))))))))))) ?_
 try dsimp only [Cx.nox,Cx.wish,bP]
 obtain⟨q,hq⟩:∃ q,jS ws d=q:=⟨_,rfl⟩
 have dw:=a.wv.deep
 have dd_:=a.dp
 have sh:=Bf a.ok a.w9 a.gd
 refine⟨_,rfl,_,rfl,v,c,ws,d,rfl,a,fun ud H1 s1 av=>?_⟩
 rw [hq] at av
 refine⟨_,rfl,_,rfl,dE,fun p2 g2=>?_⟩
 have e2:=ak g2 (.tup [v,c])
 have q2:aZ K (upd H1 p2 (.tup [v,c])) p2 [v,c]:=aZ.of af
 generalize upd H1 p2 (.tup [v,c])=H2 at e2 q2 ⊢
 have s2:=s1.trans e2
 refine⟨.ref p2,.tuple [ye ws,d],rfl,.tup q2 (.cons (dw.same s2) (.cons (dd_.same s2) .nil)),sh,?_⟩
 refine⟨_,rfl,_,rfl,v,c,ws,d,rfl,a.same s2,fun x0 H3 s3' tr=>?_⟩
 rw [hq] at tr
 have s3:=s2.trans s3'
 cases q with
 | none=>
  cases (show ud=.non from av)
  obtain⟨p,l,rfl,hp,hl⟩:=tr
  refine⟨p,_,rfl,hp,rfl,_,_,rfl,_,_,rfl,rfl,?_⟩
  refine⟨_,rfl,_,rfl,dE,fun p4 g4=>?_⟩
  have e4:=ak g4 (.tup [v,c])
  have q4:aZ K (upd H3 p4 (.tup [v,c])) p4 [v,c]:=aZ.of af
  generalize upd H3 p4 (.tup [v,c])=H4 at e4 q4 ⊢
  have s4:=s3.trans e4
  refine⟨.ref p4,.tuple [ye ws,d],rfl,.tup q4 (.cons (dw.same s4) (.cons (dd_.same s4) .nil)),sh,?_⟩
  refine⟨_,rfl,rfl,_,rfl,f9 rfl ?_⟩
  refine⟨_,rfl,rfl,_,rfl,cv rfl ?_⟩
  refine⟨_,rfl,(by show 0≤sizeLine;exact Nat.zero_le _),fun l5 g5=>?_⟩
  have e5:=ak g5 (.lst [])
  have h5:upd H4 l5 (.lst []) l5=some (.lst []):=af
  generalize upd H4 l5 (.lst [])=H5 at e5 h5 ⊢
  have s5:=s4.trans e5
  refine⟨.list [],.list [],.lst (bj.of (e5 _ _ (e4 _ _ hl))) .nil,.lst (bj.of h5) .nil,rfl,rfl,by decide,_,rfl,tW rfl ?_⟩
  refine⟨_,rfl,_,_,rfl,rfl,?_⟩
  exact k _ s5
 | some zn=>
  obtain⟨z,n⟩:=zn
  obtain⟨pu,rfl,hpu⟩:=(show ∃ p,ud=.ref p/\aZ K H1 p [.str z,.int n] from av)
  obtain⟨p,l,x,dd,rfl,hp,hx,hd,hl⟩:=tr
  refine⟨p,_,rfl,hp,rfl,_,_,rfl,_,_,rfl,rfl,?_⟩
  refine⟨_,rfl,_,rfl,dE,fun p4 g4=>?_⟩
  have e4:=ak g4 (.tup [v,c])
  have q4:aZ K (upd H3 p4 (.tup [v,c])) p4 [v,c]:=aZ.of af
  generalize upd H3 p4 (.tup [v,c])=H4 at e4 q4 ⊢
  have s4:=s3.trans e4
  refine⟨.ref p4,.tuple [ye ws,d],rfl,.tup q4 (.cons (dw.same s4) (.cons (dd_.same s4) .nil)),sh,?_⟩
  refine⟨_,rfl,rfl,_,rfl,f9 rfl ?_⟩
  refine⟨_,rfl,rfl,_,rfl,bO (fun z=>by cases z) ?_⟩
  refine⟨_,rfl,Aq,fun l5 g5=>?_⟩
  have e5:=ak g5 (.lst [.bl true,.bl true,.bl true,.bl false])
  have h5:upd H4 l5 (.lst [.bl true,.bl true,.bl true,.bl false]) l5=some (.lst [.bl true,.bl true,.bl true,.bl false]):=af
  generalize upd H4 l5 (.lst [.bl true,.bl true,.bl true,.bl false])=H5 at e5 h5 ⊢
  have s5:=s4.trans e5
  refine⟨.list [.bool true,.bool true,.bool true,.bool false],.list [.bool true,.bool true,.bool true,.bool false],.lst (bj.of (e5 _ _ (e4 _ _ hl))) (.cons (.bl _) (.cons (.bl _) (.cons (.bl _) (.cons (.bl _) .nil)))),.lst (bj.of h5) (.cons (.bl _) (.cons (.bl _) (.cons (.bl _) (.cons (.bl _) .nil)))),rfl,rfl,by decide,_,rfl,tW rfl ?_⟩
  have e45:=e4.trans e5
  refine⟨_,rfl,_,rfl,x,_,dd,_,_,_,rfl,.inl (e45 _ _ hx),e45 _ _ hd,T.X_Q23.cl,T.g_Q23,T.n_Q23_word,rfl,_,rfl,x,_,dd,_,_,_,rfl,.inl (e45 _ _ hx),e45 _ _ hd,T.X_Q23.cl,T.g_Q23,T.n_Q23_number,rfl,dE,fun p6 g6=>?_⟩
  have e6:=ak g6 (.tup [.str z,.int n])
  have q6:aZ K (upd H5 p6 (.tup [.str z,.int n])) p6 [.str z,.int n]:=aZ.of af
  have q1:=bn.same (K:=K) ((((e2.trans s3').trans e4).trans e5).trans e6) _ _ hpu
  exact⟨.ref pu,.ref p6,.tuple [.str z,.int n],rfl,.tup q1 (.cons (.str _) (.cons (.int _) .nil)),.tup q6 (.cons (.str _) (.cons (.int _) .nil)),Nat.le_refl 1,rfl,fun H7 s7=>k _ ((s5.trans e6).trans s7)⟩
theorem Ch (T:eR K mg t):bK P w K mg base d9 9 t.a_Q52 t.d_Q52 ["_law_script"] (oz K):=by
 refine T.F_Q52.ok js (fun vs H Q E h=>?_) (fun cdv A outer s H vs Q E hr h=>?_)
 ·obtain⟨_,_,rfl,_⟩:=h;rfl
 obtain⟨a,ns,rfl,hS,hl,k⟩:=h
 refine dU.ok (ag (cV 1 js.nd (dA (Cr T) hr T.m_Q27 T.F_Q27.kp T.b_Q27 (aa (qv 0) ad ac)))
   (ag (bZ PassesOwn.never rfl (dj rfl T.z_range (aa ae ad ap)) (aG (i:=2) js.nd rfl (by first | exact Or.inl rfl | exact Or.inr rfl))
   (ag (cV 3 js.nd (dA (CA T) hr T.m_Q17 T.F_Q17.kp T.b_Q17 (aa (qv 1) (aa (dA (cP T) hr T.m_Q28 T.F_Q28.kp T.b_Q28 (aa (qv 1) (aa ae ad ap) ac)) ad ao) ac)))
   (ah (bZ PassesOwn.never rfl (fc (dA (CC T) hr T.m_Q14 T.F_Q14.kp T.b_Q14 (aa (qv 1) (aa (qv 3) ad ac) ac))) (aG (i:=4) js.nd rfl (by first | exact Or.inl rfl | exact Or.inr rfl))
   (ag (cV 5 js.nd (bD (aa (qv 4) (aa (dA (xg T) hr T.m_Q32 T.F_Q32.kp T.b_Q32 (aa (qv 1) (aa (qv 3) (aa (qv 4) ad ac) ac) ac)) (aa (dA (xg T) hr T.m_Q32 T.F_Q32.kp T.b_Q32 (aa (qv 1) (aa (qv 3) (aa (qv 4) ad ac) ac) ac)) ad ao) ao) ac)))
   (ah (bh (aH nA cW (bR (N':=["_law_thing", "_law_works_here"]) (src:=[none,some 3]) rfl (by exact (fc (qv 5))) (fun _ _ _ _ _=>(by exact (by exact aG (i:=0) (by show List.Nodup (["_law_thing", "_law_works_here"]:List Str);decide +kernel) (by exact rfl) (by first | exact Or.inl rfl | exact Or.inr rfl)))) (fun _ _ _ _ _=>cK) (fun _ _ _ _ _=>(by exact (by exact (dP (Cu T) (by exact hr.mono (by decide)) (by exact rfl) T.m_Q22 T.F_Q22.kp T.b_Q22 (by exact .nil) (by exact jK) (aa (by exact (qv 1)) (aa (by exact (qv 0)) ad ac) ac))))) (by exact⟨rfl,rfl,rfl,rfl,trivial⟩) rfl (by decide +kernel) rfl (by decide +kernel) (by exact bz rfl ⟨rfl,trivial⟩)) (by with_unfolding_all rfl)) (ah (aC cW)) aE)))))))
   (ah (aC cW)))) ?_
 try dsimp only [Cx.nox,Cx.wish,bP]
 refine⟨_,rfl,a,ns,rfl,hS,hl,fun t₁ H1 s1 ht T1=>?_⟩
 refine⟨5,rfl,by decide,by decide,dk (lo:=0) (n:=5) (fun i σ H'=>∃ (x2 x3 x4 x5:Option V),σ=[some (.ref a),some (.ref t₁),x2,x3,x4,x5]/\bJ K H' t₁ a) ⟨none,none,none,none,rfl,T1⟩ ?_ ?_⟩
 ·rintro i₀ σ H2 hi ⟨x2,x3,x4,x5,rfl,T2⟩
  refine⟨_,rfl,_,rfl,t₁,a,9,rfl,T2,by decide,by decide,fun r1 xx a1 b1 T3=>?_⟩
  generalize upd H2 t₁ (.lst xx)=H3 at T3 ⊢
  obtain⟨d,rfl⟩:=Int.eq_ofNat_of_zero_le a1
  refine⟨t₁,a,d,rfl,T3,by omega,fun v ws H4 S4 T4 wv hw ok=>?_⟩
  have w9:ws.length≤9:=by omega
  refine⟨_,rfl,_,rfl,t₁,a,v,ws,rfl,T4,wv,w9,ok,fun l xs pps H5 S5 T5 h5 al ok5 l6=>?_⟩
  have wv5:=wv.mono (bn.step (K:=K) S5)
  have nl:=xC T5 h5 al
  have lx:=al.len
  refine⟨l,rfl,⟨_,bj.of h5⟩,gI (K:=K) (a:=l) (xs:=xs) (fun i σ H'=>∃ (x4 x5:Option V),σ=[some (.ref a),some (.ref t₁),some (.int (0+(i₀:Int))),some v,x4,x5]/\bJ K H' t₁ a/\bB t₁ H5 H') ⟨_,_,rfl,T5,bB.refl T5.lst⟩ (fun i σ H1 _ ⟨_,_,_,_,S⟩=>bj.of (S.keep _ _ nl h5)) ?_ ?_⟩
  ·rintro i x σ H6 hx ⟨x4,x5,rfl,T6,S6⟩
   obtain⟨p,hp,lv5⟩:=al.at hx
   have pok:=ok5 p (List.mem_of_getElem? hp)
   have t6:=bn.step (K:=K) S6
   have wv6:=wv5.mono t6
   have lv6:=lv5.mono t6
   refine⟨_,rfl,_,rfl,_,rfl,_,rfl,t₁,a,v,x,ws,p,rfl,T6,wv6,w9,lv6,pok,fun u7 d7 H7 S7 T7 D7 G7 W7=>?_⟩
   have t7:=bn.step (K:=K) S7
   have wv7:=wv6.mono t7
   have lv7:=lv6.mono t7
   refine⟨_,rfl,_,rfl,_,rfl,t₁,a,v,x,ws,p,rfl,T7,wv7,w9,lv7,pok,fun u8 d8 H8 S8 T8 D8 G8 W8=>⟨Du,fun D9 h9=>?_⟩⟩
   have t8:=bn.step (K:=K) S8
   have s9:=ak h9 (.lst [x,u7,u8])
   have q9:upd H8 D9 (.lst [x,u7,u8]) D9=some (.lst [x,u7,u8]):=af
   generalize upd H8 D9 (.lst [x,u7,u8])=H9 at s9 q9 ⊢
   have T9:=T8.same s9
   have wv9:=(wv7.mono t8).mono (bn.same s9)
   have dx:=((lv7.mono t8).mono (bn.same s9)).deep
   have e7:=(uD S8 D7).same s9
   have e8:=(D8.same uc).same s9
   have da:aq K H9 [x,u7,u8] [.tuple (p.map uo),d7,d8]:=.cons dx (.cons e7 (.cons e8 .nil))
   have gs:∀ d∈[PyData.tuple (p.map uo),d7,d8],Gd 5 8000000 d/\vJ d:=fun d hd=>by
    simp only [List.mem_cons,List.not_mem_nil,or_false] at hd
    rcases hd with rfl | rfl | rfl
    ·exact⟨Cb pok w9,B9 pok w9⟩
    ·exact⟨G7,W7⟩
    ·exact⟨G8,W8⟩
   refine⟨_,rfl,D9,rfl,⟨_,bj.of q9⟩,fun D2 hD2=>cH (jZ (bj.of q9)) (fun _=>true) (fun _=>V.bl true) hD2 (by show 3≤1000;decide) (fun i x H' hi s' hx R E kR kE=>?_) fun HA sA hA=>?_⟩
   ·have hi3:i < 3:=hi
    obtain⟨u,hu,du⟩:=aq.atN da (List.getElem?_eq_getElem (show i < [PyData.tuple (p.map uo),d7,d8].length from hi3))
    rw [hx] at hu
    cases hu
    obtain⟨g,wd⟩:=gs _ (List.getElem_mem (show i < [PyData.tuple (p.map uo),d7,d8].length from hi3))
    exact⟨ji.set rfl,_,rfl,_,rfl,v,x,ws,_,rfl,⟨wv9.mono (bn.same s'),w9,ok,du.same s',wd,g⟩,fun H6 s6=>kR rfl _ s6⟩
   rw [List.filter_eq_self.mpr (fun _ _=>rfl)] at hA
   refine⟨D2,_,rfl,.inl (bj.of hA),rfl,yn,_,rfl,xH sk ?_⟩
   exact⟨_,_,rfl,T9.same sA,((S6.trans S7).trans S8).trans (bB.same (s9.trans sA) T8.lst)⟩
  ·rintro σ H6 ⟨x4,x5,rfl,T6,S6⟩
   exact⟨_,_,_,_,rfl,T6⟩
 ·rintro σ H2 ⟨x2,x3,x4,x5,rfl,T2⟩
  exact k H2
end
set_option autoImplicit true in
set_option relaxedAutoImplicit true in
open PySem.W in
theorem all_mk {l:OpenLaw} {w:World} {K:Frag} {h:Heap} {mg:Str->Option Value} {fa:Addr} (X:K.In h) (G:h.Ns mainGlobals mg) (hfa:mg "law" = some (.ref fa))
  (p_Q25:nsIn K mainGlobals "is_whole" = some (some (.ref f_Q25))) (l_Q25:K.lookup f_Q25=some ⟨oc_Q25,od_Q25,.func (fnOf "is_whole" "is_whole" (aQ mV) (aI mV) (ai mV) .none kV_Q25 dc_Q25 pm_Q25 an_Q25 cd_Q25 ct_Q25),sl_Q25⟩) (c_Q25:codeIn K cd_Q25 "is_whole" = true) (k_Q25:keepIn K (.ref f_Q25)=true)
  (p_Q10:nsIn K mainGlobals "is_tuple_of" = some (some (.ref f_Q10))) (l_Q10:K.lookup f_Q10=some ⟨oc_Q10,od_Q10,.func (fnOf "is_tuple_of" "is_tuple_of" (aQ nh) (aI nh) (ai nh) .none kV_Q10 dc_Q10 pm_Q10 an_Q10 cd_Q10 ct_Q10),sl_Q10⟩) (c_Q10:codeIn K cd_Q10 "is_tuple_of" = true) (k_Q10:keepIn K (.ref f_Q10)=true)
  (p_Q8:nsIn K mainGlobals "is_number_of" = some (some (.ref f_Q8))) (l_Q8:K.lookup f_Q8=some ⟨oc_Q8,od_Q8,.func (fnOf "is_number_of" "is_number_of" (aQ uI) (aI uI) (ai uI) .none kV_Q8 dc_Q8 pm_Q8 an_Q8 cd_Q8 ct_Q8),sl_Q8⟩) (c_Q8:codeIn K cd_Q8 "is_number_of" = true) (k_Q8:keepIn K (.ref f_Q8)=true)
  (p_Q15:nsIn K mainGlobals "is_rising" = some (some (.ref f_Q15))) (l_Q15:K.lookup f_Q15=some ⟨oc_Q15,od_Q15,.func (fnOf "is_rising" "is_rising" (aQ m7) (aI m7) (ai m7) .none kV_Q15 dc_Q15 pm_Q15 an_Q15 cd_Q15 ct_Q15),sl_Q15⟩) (c_Q15:codeIn K cd_Q15 "is_rising" = true) (k_Q15:keepIn K (.ref f_Q15)=true)
  (p_Q43:nsIn K mainGlobals "copied" = some (some (.ref f_Q43))) (l_Q43:K.lookup f_Q43=some ⟨oc_Q43,od_Q43,.func (fnOf "copied" "copied" (aQ mI) (aI mI) (ai mI) .none kV_Q43 dc_Q43 pm_Q43 an_Q43 cd_Q43 ct_Q43),sl_Q43⟩) (c_Q43:codeIn K cd_Q43 "copied" = true) (k_Q43:keepIn K (.ref f_Q43)=true)
  (p_Q0:nsIn K mainGlobals "greatest_divisor" = some (some (.ref f_Q0))) (l_Q0:K.lookup f_Q0=some ⟨oc_Q0,od_Q0,.func (fnOf "greatest_divisor" "greatest_divisor" (aQ uQ) (aI uQ) (ai uQ) .none kV_Q0 dc_Q0 pm_Q0 an_Q0 cd_Q0 ct_Q0),sl_Q0⟩) (c_Q0:codeIn K cd_Q0 "greatest_divisor" = true) (k_Q0:keepIn K (.ref f_Q0)=true)
  (p_Q47:nsIn K mainGlobals "ratio" = some (some (.ref f_Q47))) (l_Q47:K.lookup f_Q47=some ⟨oc_Q47,od_Q47,.func (fnOf "ratio" "ratio" (aQ mH) (aI mH) (ai mH) .none kV_Q47 dc_Q47 pm_Q47 an_Q47 cd_Q47 ct_Q47),sl_Q47⟩) (c_Q47:codeIn K cd_Q47 "ratio" = true) (k_Q47:keepIn K (.ref f_Q47)=true)
  (p_Q50:nsIn K mainGlobals "plus" = some (some (.ref f_Q50))) (l_Q50:K.lookup f_Q50=some ⟨oc_Q50,od_Q50,.func (fnOf "plus" "plus" (aQ mE) (aI mE) (ai mE) .none kV_Q50 dc_Q50 pm_Q50 an_Q50 cd_Q50 ct_Q50),sl_Q50⟩) (c_Q50:codeIn K cd_Q50 "plus" = true) (k_Q50:keepIn K (.ref f_Q50)=true)
  (p_Q48:nsIn K mainGlobals "times" = some (some (.ref f_Q48))) (l_Q48:K.lookup f_Q48=some ⟨oc_Q48,od_Q48,.func (fnOf "times" "times" (aQ mG) (aI mG) (ai mG) .none kV_Q48 dc_Q48 pm_Q48 an_Q48 cd_Q48 ct_Q48),sl_Q48⟩) (c_Q48:codeIn K cd_Q48 "times" = true) (k_Q48:keepIn K (.ref f_Q48)=true)
  (p_Q51:nsIn K mainGlobals "over" = some (some (.ref f_Q51))) (l_Q51:K.lookup f_Q51=some ⟨oc_Q51,od_Q51,.func (fnOf "over" "over" (aQ mD) (aI mD) (ai mD) .none kV_Q51 dc_Q51 pm_Q51 an_Q51 cd_Q51 ct_Q51),sl_Q51⟩) (c_Q51:codeIn K cd_Q51 "over" = true) (k_Q51:keepIn K (.ref f_Q51)=true)
  (p_Q33:nsIn K mainGlobals "is_less" = some (some (.ref f_Q33))) (l_Q33:K.lookup f_Q33=some ⟨oc_Q33,od_Q33,.func (fnOf "is_less" "is_less" (aQ mN) (aI mN) (ai mN) .none kV_Q33 dc_Q33 pm_Q33 an_Q33 cd_Q33 ct_Q33),sl_Q33⟩) (c_Q33:codeIn K cd_Q33 "is_less" = true) (k_Q33:keepIn K (.ref f_Q33)=true)
  (p_Q49:nsIn K mainGlobals "total" = some (some (.ref f_Q49))) (l_Q49:K.lookup f_Q49=some ⟨oc_Q49,od_Q49,.func (fnOf "total" "total" (aQ mF) (aI mF) (ai mF) .none kV_Q49 dc_Q49 pm_Q49 an_Q49 cd_Q49 ct_Q49),sl_Q49⟩) (c_Q49:codeIn K cd_Q49 "total" = true) (k_Q49:keepIn K (.ref f_Q49)=true)
  (p_Q5:nsIn K mainGlobals "layer_density" = some (some (.ref f_Q5))) (l_Q5:K.lookup f_Q5=some ⟨oc_Q5,od_Q5,.func (fnOf "layer_density" "layer_density" (aQ uL) (aI uL) (ai uL) .none kV_Q5 dc_Q5 pm_Q5 an_Q5 cd_Q5 ct_Q5),sl_Q5⟩) (c_Q5:codeIn K cd_Q5 "layer_density" = true) (k_Q5:keepIn K (.ref f_Q5)=true)
  (p_Q2:nsIn K mainGlobals "is_layer_shaped" = some (some (.ref f_Q2))) (l_Q2:K.lookup f_Q2=some ⟨oc_Q2,od_Q2,.func (fnOf "is_layer_shaped" "is_layer_shaped" (aQ uO) (aI uO) (ai uO) .none kV_Q2 dc_Q2 pm_Q2 an_Q2 cd_Q2 ct_Q2),sl_Q2⟩) (c_Q2:codeIn K cd_Q2 "is_layer_shaped" = true) (k_Q2:keepIn K (.ref f_Q2)=true)
  (p_Q3:nsIn K mainGlobals "is_paper_shaped" = some (some (.ref f_Q3))) (l_Q3:K.lookup f_Q3=some ⟨oc_Q3,od_Q3,.func (fnOf "is_paper_shaped" "is_paper_shaped" (aQ uN) (aI uN) (ai uN) .none kV_Q3 dc_Q3 pm_Q3 an_Q3 cd_Q3 ct_Q3),sl_Q3⟩) (c_Q3:codeIn K cd_Q3 "is_paper_shaped" = true) (k_Q3:keepIn K (.ref f_Q3)=true)
  (p_Q11:nsIn K mainGlobals "first_again" = some (some (.ref f_Q11))) (l_Q11:K.lookup f_Q11=some ⟨oc_Q11,od_Q11,.func (fnOf "first_again" "first_again" (aQ ng) (aI ng) (ai ng) .none kV_Q11 dc_Q11 pm_Q11 an_Q11 cd_Q11 ct_Q11),sl_Q11⟩) (c_Q11:codeIn K cd_Q11 "first_again" = true) (k_Q11:keepIn K (.ref f_Q11)=true)
  (p_Q26:nsIn K mainGlobals "ask_once" = some (some (.ref f_Q26))) (l_Q26:K.lookup f_Q26=some ⟨oc_Q26,od_Q26,.func (fnOf "ask_once" "ask_once" (aQ mU) (aI mU) (ai mU) .none kV_Q26 dc_Q26 pm_Q26 an_Q26 cd_Q26 ct_Q26),sl_Q26⟩) (c_Q26:codeIn K cd_Q26 "ask_once" = true) (k_Q26:keepIn K (.ref f_Q26)=true)
  (p_Q12:nsIn K mainGlobals "ask_windows" = some (some (.ref f_Q12))) (l_Q12:K.lookup f_Q12=some ⟨oc_Q12,od_Q12,.func (fnOf "ask_windows" "ask_windows" (aQ nc) (aI nc) (ai nc) .none kV_Q12 dc_Q12 pm_Q12 an_Q12 cd_Q12 ct_Q12),sl_Q12⟩) (c_Q12:codeIn K cd_Q12 "ask_windows" = true) (k_Q12:keepIn K (.ref f_Q12)=true)
  (p_Q6:nsIn K mainGlobals "ask_densities" = some (some (.ref f_Q6))) (l_Q6:K.lookup f_Q6=some ⟨oc_Q6,od_Q6,.func (fnOf "ask_densities" "ask_densities" (aQ uK) (aI uK) (ai uK) .none kV_Q6 dc_Q6 pm_Q6 an_Q6 cd_Q6 ct_Q6),sl_Q6⟩) (c_Q6:codeIn K cd_Q6 "ask_densities" = true) (k_Q6:keepIn K (.ref f_Q6)=true)
  (p_Q4:nsIn K mainGlobals "lets_stretches" = some (some (.ref f_Q4))) (l_Q4:K.lookup f_Q4=some ⟨oc_Q4,od_Q4,.func (fnOf "lets_stretches" "lets_stretches" (aQ uM) (aI uM) (ai uM) .none kV_Q4 dc_Q4 pm_Q4 an_Q4 cd_Q4 ct_Q4),sl_Q4⟩) (c_Q4:codeIn K cd_Q4 "lets_stretches" = true) (k_Q4:keepIn K (.ref f_Q4)=true)
  (p_Q27:nsIn K mainGlobals "_law_tape" = some (some (.ref f_Q27))) (l_Q27:K.lookup f_Q27=some ⟨oc_Q27,od_Q27,.func (fnOf "_law_tape" "_law_tape" (aQ mT) (aI mT) (ai mT) .none kV_Q27 dc_Q27 pm_Q27 an_Q27 cd_Q27 ct_Q27),sl_Q27⟩) (c_Q27:codeIn K cd_Q27 "_law_tape" = true) (k_Q27:keepIn K (.ref f_Q27)=true)
  (p_Q28:nsIn K mainGlobals "_law_draw" = some (some (.ref f_Q28))) (l_Q28:K.lookup f_Q28=some ⟨oc_Q28,od_Q28,.func (fnOf "_law_draw" "_law_draw" (aQ mS) (aI mS) (ai mS) .none kV_Q28 dc_Q28 pm_Q28 an_Q28 cd_Q28 ct_Q28),sl_Q28⟩) (c_Q28:codeIn K cd_Q28 "_law_draw" = true) (k_Q28:keepIn K (.ref f_Q28)=true)
  (p_Q16:nsIn K mainGlobals "_law_alike" = some (some (.ref f_Q16))) (l_Q16:K.lookup f_Q16=some ⟨oc_Q16,od_Q16,.func (fnOf "_law_alike" "_law_alike" (aQ m6) (aI m6) (ai m6) .none kV_Q16 dc_Q16 pm_Q16 an_Q16 cd_Q16 ct_Q16),sl_Q16⟩) (c_Q16:codeIn K cd_Q16 "_law_alike" = true) (k_Q16:keepIn K (.ref f_Q16)=true)
  (p_Q29:nsIn K mainGlobals "_law_frac" = some (some (.ref f_Q29))) (l_Q29:K.lookup f_Q29=some ⟨oc_Q29,od_Q29,.func (fnOf "_law_frac" "_law_frac" (aQ mR) (aI mR) (ai mR) .none kV_Q29 dc_Q29 pm_Q29 an_Q29 cd_Q29 ct_Q29),sl_Q29⟩) (c_Q29:codeIn K cd_Q29 "_law_frac" = true) (k_Q29:keepIn K (.ref f_Q29)=true)
  (p_Q34:nsIn K mainGlobals "_law_add" = some (some (.ref f_Q34))) (l_Q34:K.lookup f_Q34=some ⟨oc_Q34,od_Q34,.func (fnOf "_law_add" "_law_add" (aQ mM) (aI mM) (ai mM) .none kV_Q34 dc_Q34 pm_Q34 an_Q34 cd_Q34 ct_Q34),sl_Q34⟩) (c_Q34:codeIn K cd_Q34 "_law_add" = true) (k_Q34:keepIn K (.ref f_Q34)=true)
  (p_Q35:nsIn K mainGlobals "_law_mul" = some (some (.ref f_Q35))) (l_Q35:K.lookup f_Q35=some ⟨oc_Q35,od_Q35,.func (fnOf "_law_mul" "_law_mul" (aQ mL) (aI mL) (ai mL) .none kV_Q35 dc_Q35 pm_Q35 an_Q35 cd_Q35 ct_Q35),sl_Q35⟩) (c_Q35:codeIn K cd_Q35 "_law_mul" = true) (k_Q35:keepIn K (.ref f_Q35)=true)
  (p_Q30:nsIn K mainGlobals "_law_less" = some (some (.ref f_Q30))) (l_Q30:K.lookup f_Q30=some ⟨oc_Q30,od_Q30,.func (fnOf "_law_less" "_law_less" (aQ mQ) (aI mQ) (ai mQ) .none kV_Q30 dc_Q30 pm_Q30 an_Q30 cd_Q30 ct_Q30),sl_Q30⟩) (c_Q30:codeIn K cd_Q30 "_law_less" = true) (k_Q30:keepIn K (.ref f_Q30)=true)
  (p_Q36:nsIn K mainGlobals "_law_sum" = some (some (.ref f_Q36))) (l_Q36:K.lookup f_Q36=some ⟨oc_Q36,od_Q36,.func (fnOf "_law_sum" "_law_sum" (aQ mK) (aI mK) (ai mK) .none kV_Q36 dc_Q36 pm_Q36 an_Q36 cd_Q36 ct_Q36),sl_Q36⟩) (c_Q36:codeIn K cd_Q36 "_law_sum" = true) (k_Q36:keepIn K (.ref f_Q36)=true)
  (p_Q17:nsIn K mainGlobals "_law_works" = some (some (.ref f_Q17))) (l_Q17:K.lookup f_Q17=some ⟨oc_Q17,od_Q17,.func (fnOf "_law_works" "_law_works" (aQ m5) (aI m5) (ai m5) .none kV_Q17 dc_Q17 pm_Q17 an_Q17 cd_Q17 ct_Q17),sl_Q17⟩) (c_Q17:codeIn K cd_Q17 "_law_works" = true) (k_Q17:keepIn K (.ref f_Q17)=true)
  (p_Q18:nsIn K mainGlobals "_law_units" = some (some (.ref f_Q18))) (l_Q18:K.lookup f_Q18=some ⟨oc_Q18,od_Q18,.func (fnOf "_law_units" "_law_units" (aQ m4) (aI m4) (ai m4) .none kV_Q18 dc_Q18 pm_Q18 an_Q18 cd_Q18 ct_Q18),sl_Q18⟩) (c_Q18:codeIn K cd_Q18 "_law_units" = true) (k_Q18:keepIn K (.ref f_Q18)=true)
  (p_Q9:nsIn K mainGlobals "_law_tightest" = some (some (.ref f_Q9))) (l_Q9:K.lookup f_Q9=some ⟨oc_Q9,od_Q9,.func (fnOf "_law_tightest" "_law_tightest" (aQ uH) (aI uH) (ai uH) .none kV_Q9 dc_Q9 pm_Q9 an_Q9 cd_Q9 ct_Q9),sl_Q9⟩) (c_Q9:codeIn K cd_Q9 "_law_tightest" = true) (k_Q9:keepIn K (.ref f_Q9)=true)
  (p_Q13:nsIn K mainGlobals "_law_layers" = some (some (.ref f_Q13))) (l_Q13:K.lookup f_Q13=some ⟨oc_Q13,od_Q13,.func (fnOf "_law_layers" "_law_layers" (aQ m9) (aI m9) (ai m9) .none kV_Q13 dc_Q13 pm_Q13 an_Q13 cd_Q13 ct_Q13),sl_Q13⟩) (c_Q13:codeIn K cd_Q13 "_law_layers" = true) (k_Q13:keepIn K (.ref f_Q13)=true)
  (p_Q31:nsIn K mainGlobals "_law_pace" = some (some (.ref f_Q31))) (l_Q31:K.lookup f_Q31=some ⟨oc_Q31,od_Q31,.func (fnOf "_law_pace" "_law_pace" (aQ mP) (aI mP) (ai mP) .none kV_Q31 dc_Q31 pm_Q31 an_Q31 cd_Q31 ct_Q31),sl_Q31⟩) (c_Q31:codeIn K cd_Q31 "_law_pace" = true) (k_Q31:keepIn K (.ref f_Q31)=true)
  (p_Q1:nsIn K mainGlobals "_law_rising_tuple" = some (some (.ref f_Q1))) (l_Q1:K.lookup f_Q1=some ⟨oc_Q1,od_Q1,.func (fnOf "_law_rising_tuple" "_law_rising_tuple" (aQ uP) (aI uP) (ai uP) .none kV_Q1 dc_Q1 pm_Q1 an_Q1 cd_Q1 ct_Q1),sl_Q1⟩) (c_Q1:codeIn K cd_Q1 "_law_rising_tuple" = true) (k_Q1:keepIn K (.ref f_Q1)=true)
  (p_Q19:nsIn K mainGlobals "_law_asked" = some (some (.ref f_Q19))) (l_Q19:K.lookup f_Q19=some ⟨oc_Q19,od_Q19,.func (fnOf "_law_asked" "_law_asked" (aQ mZ) (aI mZ) (ai mZ) .none kV_Q19 dc_Q19 pm_Q19 an_Q19 cd_Q19 ct_Q19),sl_Q19⟩) (c_Q19:codeIn K cd_Q19 "_law_asked" = true) (k_Q19:keepIn K (.ref f_Q19)=true)
  (p_Q37:nsIn K mainGlobals "_law_one" = some (some (.ref f_Q37))) (l_Q37:K.lookup f_Q37=some ⟨oc_Q37,od_Q37,.func (fnOf "_law_one" "_law_one" (aQ mJ) (aI mJ) (ai mJ) .none kV_Q37 dc_Q37 pm_Q37 an_Q37 cd_Q37 ct_Q37),sl_Q37⟩) (c_Q37:codeIn K cd_Q37 "_law_one" = true) (k_Q37:keepIn K (.ref f_Q37)=true)
  (p_Q14:nsIn K mainGlobals "_law_papers" = some (some (.ref f_Q14))) (l_Q14:K.lookup f_Q14=some ⟨oc_Q14,od_Q14,.func (fnOf "_law_papers" "_law_papers" (aQ m8) (aI m8) (ai m8) .none kV_Q14 dc_Q14 pm_Q14 an_Q14 cd_Q14 ct_Q14),sl_Q14⟩) (c_Q14:codeIn K cd_Q14 "_law_papers" = true) (k_Q14:keepIn K (.ref f_Q14)=true)
  (p_Q20:nsIn K mainGlobals "_law_marks" = some (some (.ref f_Q20))) (l_Q20:K.lookup f_Q20=some ⟨oc_Q20,od_Q20,.func (fnOf "_law_marks" "_law_marks" (aQ mY) (aI mY) (ai mY) .none kV_Q20 dc_Q20 pm_Q20 an_Q20 cd_Q20 ct_Q20),sl_Q20⟩) (c_Q20:codeIn K cd_Q20 "_law_marks" = true) (k_Q20:keepIn K (.ref f_Q20)=true)
  (p_Q7:nsIn K mainGlobals "_law_bent_pair" = some (some (.ref f_Q7))) (l_Q7:K.lookup f_Q7=some ⟨oc_Q7,od_Q7,.func (fnOf "_law_bent_pair" "_law_bent_pair" (aQ uJ) (aI uJ) (ai uJ) .none kV_Q7 dc_Q7 pm_Q7 an_Q7 cd_Q7 ct_Q7),sl_Q7⟩) (c_Q7:codeIn K cd_Q7 "_law_bent_pair" = true) (k_Q7:keepIn K (.ref f_Q7)=true)
  (p_Q32:nsIn K mainGlobals "_law_bent" = some (some (.ref f_Q32))) (l_Q32:K.lookup f_Q32=some ⟨oc_Q32,od_Q32,.func (fnOf "_law_bent" "_law_bent" (aQ mO) (aI mO) (ai mO) .none kV_Q32 dc_Q32 pm_Q32 an_Q32 cd_Q32 ct_Q32),sl_Q32⟩) (c_Q32:codeIn K cd_Q32 "_law_bent" = true) (k_Q32:keepIn K (.ref f_Q32)=true)
  (p_Q21:nsIn K mainGlobals "_law_tried" = some (some (.ref f_Q21))) (l_Q21:K.lookup f_Q21=some ⟨oc_Q21,od_Q21,.func (fnOf "_law_tried" "_law_tried" (aQ mX) (aI mX) (ai mX) .none kV_Q21 dc_Q21 pm_Q21 an_Q21 cd_Q21 ct_Q21),sl_Q21⟩) (c_Q21:codeIn K cd_Q21 "_law_tried" = true) (k_Q21:keepIn K (.ref f_Q21)=true)
  (p_Q22:nsIn K mainGlobals "_law_right" = some (some (.ref f_Q22))) (l_Q22:K.lookup f_Q22=some ⟨oc_Q22,od_Q22,.func (fnOf "_law_right" "_law_right" (aQ mW) (aI mW) (ai mW) .none kV_Q22 dc_Q22 pm_Q22 an_Q22 cd_Q22 ct_Q22),sl_Q22⟩) (c_Q22:codeIn K cd_Q22 "_law_right" = true) (k_Q22:keepIn K (.ref f_Q22)=true)
  {f_Q52:Addr} {od_Q52 an_Q52:Option Addr} {sl_Q52:Array (Option Value)} {oc_Q52 kV_Q52 dc_Q52 pm_Q52 cd_Q52 ct_Q52:Value}
  (p_Q52:nsIn K mainGlobals "law" = some (some (.ref f_Q52))) (l_Q52:K.lookup f_Q52=some ⟨oc_Q52,od_Q52,.func (fnOf "law" "law" (aQ iW) (aI iW) (ai iW) .none kV_Q52 dc_Q52 pm_Q52 an_Q52 cd_Q52 ct_Q52),sl_Q52⟩) (c_Q52:codeIn K cd_Q52 "law" = true) (k_Q52:keepIn K (.ref f_Q52)=true)
  {f_NOUGHT:Addr} {od_NOUGHT:Option Addr} {sl_NOUGHT:Array (Option Value)} {tkNOUGHT0 tkNOUGHT1:Tok} {n_NOUGHT:Nat} (p_NOUGHT:nsIn K mainGlobals "NOUGHT" = some (some (.ref f_NOUGHT))) (l_NOUGHT:K.lookup f_NOUGHT=some ⟨.type "tuple", od_NOUGHT,.seq #[.int (0) tkNOUGHT0,.int (1) tkNOUGHT1] n_NOUGHT,sl_NOUGHT⟩)
  {tkTURNS:Tok} (p_TURNS:nsIn K mainGlobals "TURNS" = some (some (.int (24) tkTURNS)))
  {cB NB:Addr} {nmB qB:Str} {bsB:List Value} {hdB:Bool} {snB:List Str} {suB:List Value} {abB:Bool} {coB:Option Bool} {ddB:Option Addr} {j0 j1 j2 j3 j5:Option Value} {ocB:Value} {odB:Option Addr} {esB:Array DictEntry} {nB:Nat} {slB:Array (Option Value)}
  (pB:nsIn K mainGlobals "PaceError" = some (some (.ref cB))) (lB:K.lookup cB=some (excClassObj nmB qB cB NB bsB [.type "ValueError", .type "Exception", .type "BaseException", .type "object"] hdB snB suB abB coB ddB j0 j1 j2 j3 j5 "ValueError.__new__")) (lnB:K.lookup NB=some ⟨ocB,odB,.dict esB nB,slB⟩) (hsB:kr esB=true) (hnB:(nsFind esB "__init__").isNone=true)
  (cgB:specialIn K (.builtin "object.__class__") "__get__" = some (some (.builtin "getset_descriptor.__get__"))) (ctB:takesIn K (.builtin "object.__class__")=some true)
  {c_Q23 N_Q23 i_Q23:Addr} {nm_Q23 q_Q23:Str} {bs_Q23:List Value} {hd_Q23:Bool} {sn_Q23:List Str} {su_Q23:List Value} {ab_Q23:Bool} {co_Q23:Option Bool} {dd_Q23:Option Addr} {k0_Q23 k1_Q23 k2_Q23 k3_Q23 k5_Q23:Option Value} {od_Q23 an_Q23:Option Addr} {sl_Q23:Array (Option Value)} {oc_Q23 kV_Q23 dc_Q23 pm_Q23 cd_Q23 ct_Q23:Value}
  (p_Q23:nsIn K mainGlobals "NoStretch" = some (some (.ref c_Q23))) (lc_Q23:K.lookup c_Q23=some (excClassObj nm_Q23 q_Q23 c_Q23 N_Q23 bs_Q23 (.ref cB :: [.type "ValueError", .type "Exception", .type "BaseException", .type "object"]) hd_Q23 sn_Q23 su_Q23 ab_Q23 co_Q23 dd_Q23 k0_Q23 k1_Q23 k2_Q23 k3_Q23 k5_Q23 "ValueError.__new__")) (fi_Q23:findIn K (.ref c_Q23) "__init__" = some (some (.ref i_Q23)))
  (l_Q23:K.lookup i_Q23=some ⟨oc_Q23,od_Q23,.func (fnOf "__init__" "NoStretch.__init__" (aQ iX) (aI iX) (ai iX) .none kV_Q23 dc_Q23 pm_Q23 an_Q23 cd_Q23 ct_Q23),sl_Q23⟩) (cd_Q23_:codeIn K cd_Q23 "NoStretch.__init__" = true) (ki_Q23:keepIn K (.ref i_Q23)=true) (ti_Q23:typeIn K (.ref i_Q23)=some (.type "function")) (kc_Q23:keepIn K (.ref c_Q23)=true)
  (hh_Q23:hasDictIn K c_Q23=true) (sa_Q23:findIn K (.ref c_Q23) "__setattr__" = some (some (.builtin "object.__setattr__")))
  (na_Q23_word:findIn K (.ref c_Q23) "word" = some none) (na_Q23_number:findIn K (.ref c_Q23) "number" = some none) (ga_Q23:findIn K (.ref c_Q23) "__getattribute__" = some (some (.builtin "BaseException.__getattribute__"))) (gn_Q23:findIn K (.ref c_Q23) "__getattr__" = some none) (cl_Q23:findIn K (.ref c_Q23) "__class__" = some (some (.builtin "object.__class__")))
  {c_Q24:Addr} (p_Q24:nsIn K mainGlobals "PaceError" = some (some (.ref c_Q24)))
  {c_Q38:Addr} (p_Q38:nsIn K mainGlobals "NoLeast" = some (some (.ref c_Q38)))
  {c_Q44:Addr} (p_Q44:nsIn K mainGlobals "NoMuch" = some (some (.ref c_Q44)))
  {c_Q45:Addr} (p_Q45:nsIn K mainGlobals "NoPlan" = some (some (.ref c_Q45)))
  {c_Q39:Addr} (p_Q39:nsIn K mainGlobals "NoPrice" = some (some (.ref c_Q39)))
  {c_Q46:Addr} (p_Q46:nsIn K mainGlobals "NoRoom" = some (some (.ref c_Q46)))
  {c_Q40:Addr} (p_Q40:nsIn K mainGlobals "NoSheet" = some (some (.ref c_Q40)))
  {c_Q41:Addr} (p_Q41:nsIn K mainGlobals "NoSpeed" = some (some (.ref c_Q41)))
  {c_Q42:Addr} (p_Q42:nsIn K mainGlobals "NoRatio" = some (some (.ref c_Q42)))
  (w_x_catch:exmOne K (.ref c_Q23) (.ref c_Q24)=some true)
  (w_y_self:kitOne K (.ref c_Q23) (.ref c_Q23)=some true)
  (w_y_base:kitOne K (.ref c_Q23) (.ref c_Q24)=some true)
  (w_y_val:kitOne K (.ref c_Q23) (.type "ValueError")=some true)
  (w_y_not:kitAny K (.ref c_Q23) [.ref c_Q38,.ref c_Q44,.ref c_Q45,.ref c_Q39,.ref c_Q46,.ref c_Q40,.ref c_Q41]=some false)
  (z_ValueError:nsIn K mainGlobals "ValueError" = some none)
  (z_abs:nsIn K mainGlobals "abs" = some none)
  (z_all:nsIn K mainGlobals "all" = some none)
  (z_any:nsIn K mainGlobals "any" = some none)
  (z_bool:nsIn K mainGlobals "bool" = some none)
  (z_enumerate:nsIn K mainGlobals "enumerate" = some none)
  (z_int:nsIn K mainGlobals "int" = some none)
  (z_isinstance:nsIn K mainGlobals "isinstance" = some none)
  (z_len:nsIn K mainGlobals "len" = some none)
  (z_list:nsIn K mainGlobals "list" = some none)
  (z_range:nsIn K mainGlobals "range" = some none)
  (z_repr:nsIn K mainGlobals "repr" = some none)
  (z_set:nsIn K mainGlobals "set" = some none)
  (z_sorted:nsIn K mainGlobals "sorted" = some none)
  (z_str:nsIn K mainGlobals "str" = some none)
  (z_sum:nsIn K mainGlobals "sum" = some none)
  (z_tuple:nsIn K mainGlobals "tuple" = some none)
  : ∃ fd:FuncData,(∀ (s:Shared) (v:Value),BindsTo s fd ⟨[v],[]⟩ [("_law_script", v)])/\∀ base:Heap,K.In base->base.Ns mainGlobals mg->bK l.prog w K mg base d9 9 fa fd ["_law_script"] (oz K):=by
 have e:=hfa.symm.trans (mg_of X G p_Q52)
 cases e
 obtain⟨d_Q25,F_Q25⟩:∃ d,Fun K "is_whole" "is_whole" mV f_Q25 d:=⟨_,be l_Q25 c_Q25 k_Q25⟩
 obtain⟨d_Q10,F_Q10⟩:∃ d,Fun K "is_tuple_of" "is_tuple_of" nh f_Q10 d:=⟨_,be l_Q10 c_Q10 k_Q10⟩
 obtain⟨d_Q8,F_Q8⟩:∃ d,Fun K "is_number_of" "is_number_of" uI f_Q8 d:=⟨_,be l_Q8 c_Q8 k_Q8⟩
 obtain⟨d_Q15,F_Q15⟩:∃ d,Fun K "is_rising" "is_rising" m7 f_Q15 d:=⟨_,be l_Q15 c_Q15 k_Q15⟩
 obtain⟨d_Q43,F_Q43⟩:∃ d,Fun K "copied" "copied" mI f_Q43 d:=⟨_,be l_Q43 c_Q43 k_Q43⟩
 obtain⟨d_Q0,F_Q0⟩:∃ d,Fun K "greatest_divisor" "greatest_divisor" uQ f_Q0 d:=⟨_,be l_Q0 c_Q0 k_Q0⟩
 obtain⟨d_Q47,F_Q47⟩:∃ d,Fun K "ratio" "ratio" mH f_Q47 d:=⟨_,be l_Q47 c_Q47 k_Q47⟩
 obtain⟨d_Q50,F_Q50⟩:∃ d,Fun K "plus" "plus" mE f_Q50 d:=⟨_,be l_Q50 c_Q50 k_Q50⟩
 obtain⟨d_Q48,F_Q48⟩:∃ d,Fun K "times" "times" mG f_Q48 d:=⟨_,be l_Q48 c_Q48 k_Q48⟩
 obtain⟨d_Q51,F_Q51⟩:∃ d,Fun K "over" "over" mD f_Q51 d:=⟨_,be l_Q51 c_Q51 k_Q51⟩
 obtain⟨d_Q33,F_Q33⟩:∃ d,Fun K "is_less" "is_less" mN f_Q33 d:=⟨_,be l_Q33 c_Q33 k_Q33⟩
 obtain⟨d_Q49,F_Q49⟩:∃ d,Fun K "total" "total" mF f_Q49 d:=⟨_,be l_Q49 c_Q49 k_Q49⟩
 obtain⟨d_Q5,F_Q5⟩:∃ d,Fun K "layer_density" "layer_density" uL f_Q5 d:=⟨_,be l_Q5 c_Q5 k_Q5⟩
 obtain⟨d_Q2,F_Q2⟩:∃ d,Fun K "is_layer_shaped" "is_layer_shaped" uO f_Q2 d:=⟨_,be l_Q2 c_Q2 k_Q2⟩
 obtain⟨d_Q3,F_Q3⟩:∃ d,Fun K "is_paper_shaped" "is_paper_shaped" uN f_Q3 d:=⟨_,be l_Q3 c_Q3 k_Q3⟩
 obtain⟨d_Q11,F_Q11⟩:∃ d,Fun K "first_again" "first_again" ng f_Q11 d:=⟨_,be l_Q11 c_Q11 k_Q11⟩
 obtain⟨d_Q26,F_Q26⟩:∃ d,Fun K "ask_once" "ask_once" mU f_Q26 d:=⟨_,be l_Q26 c_Q26 k_Q26⟩
 obtain⟨d_Q12,F_Q12⟩:∃ d,Fun K "ask_windows" "ask_windows" nc f_Q12 d:=⟨_,be l_Q12 c_Q12 k_Q12⟩
 obtain⟨d_Q6,F_Q6⟩:∃ d,Fun K "ask_densities" "ask_densities" uK f_Q6 d:=⟨_,be l_Q6 c_Q6 k_Q6⟩
 obtain⟨d_Q4,F_Q4⟩:∃ d,Fun K "lets_stretches" "lets_stretches" uM f_Q4 d:=⟨_,be l_Q4 c_Q4 k_Q4⟩
 obtain⟨d_Q27,F_Q27⟩:∃ d,Fun K "_law_tape" "_law_tape" mT f_Q27 d:=⟨_,be l_Q27 c_Q27 k_Q27⟩
 obtain⟨d_Q28,F_Q28⟩:∃ d,Fun K "_law_draw" "_law_draw" mS f_Q28 d:=⟨_,be l_Q28 c_Q28 k_Q28⟩
 obtain⟨d_Q16,F_Q16⟩:∃ d,Fun K "_law_alike" "_law_alike" m6 f_Q16 d:=⟨_,be l_Q16 c_Q16 k_Q16⟩
 obtain⟨d_Q29,F_Q29⟩:∃ d,Fun K "_law_frac" "_law_frac" mR f_Q29 d:=⟨_,be l_Q29 c_Q29 k_Q29⟩
 obtain⟨d_Q34,F_Q34⟩:∃ d,Fun K "_law_add" "_law_add" mM f_Q34 d:=⟨_,be l_Q34 c_Q34 k_Q34⟩
 obtain⟨d_Q35,F_Q35⟩:∃ d,Fun K "_law_mul" "_law_mul" mL f_Q35 d:=⟨_,be l_Q35 c_Q35 k_Q35⟩
 obtain⟨d_Q30,F_Q30⟩:∃ d,Fun K "_law_less" "_law_less" mQ f_Q30 d:=⟨_,be l_Q30 c_Q30 k_Q30⟩
 obtain⟨d_Q36,F_Q36⟩:∃ d,Fun K "_law_sum" "_law_sum" mK f_Q36 d:=⟨_,be l_Q36 c_Q36 k_Q36⟩
 obtain⟨d_Q17,F_Q17⟩:∃ d,Fun K "_law_works" "_law_works" m5 f_Q17 d:=⟨_,be l_Q17 c_Q17 k_Q17⟩
 obtain⟨d_Q18,F_Q18⟩:∃ d,Fun K "_law_units" "_law_units" m4 f_Q18 d:=⟨_,be l_Q18 c_Q18 k_Q18⟩
 obtain⟨d_Q9,F_Q9⟩:∃ d,Fun K "_law_tightest" "_law_tightest" uH f_Q9 d:=⟨_,be l_Q9 c_Q9 k_Q9⟩
 obtain⟨d_Q13,F_Q13⟩:∃ d,Fun K "_law_layers" "_law_layers" m9 f_Q13 d:=⟨_,be l_Q13 c_Q13 k_Q13⟩
 obtain⟨d_Q31,F_Q31⟩:∃ d,Fun K "_law_pace" "_law_pace" mP f_Q31 d:=⟨_,be l_Q31 c_Q31 k_Q31⟩
 obtain⟨d_Q1,F_Q1⟩:∃ d,Fun K "_law_rising_tuple" "_law_rising_tuple" uP f_Q1 d:=⟨_,be l_Q1 c_Q1 k_Q1⟩
 obtain⟨d_Q19,F_Q19⟩:∃ d,Fun K "_law_asked" "_law_asked" mZ f_Q19 d:=⟨_,be l_Q19 c_Q19 k_Q19⟩
 obtain⟨d_Q37,F_Q37⟩:∃ d,Fun K "_law_one" "_law_one" mJ f_Q37 d:=⟨_,be l_Q37 c_Q37 k_Q37⟩
 obtain⟨d_Q14,F_Q14⟩:∃ d,Fun K "_law_papers" "_law_papers" m8 f_Q14 d:=⟨_,be l_Q14 c_Q14 k_Q14⟩
 obtain⟨d_Q20,F_Q20⟩:∃ d,Fun K "_law_marks" "_law_marks" mY f_Q20 d:=⟨_,be l_Q20 c_Q20 k_Q20⟩
 obtain⟨d_Q7,F_Q7⟩:∃ d,Fun K "_law_bent_pair" "_law_bent_pair" uJ f_Q7 d:=⟨_,be l_Q7 c_Q7 k_Q7⟩
 obtain⟨d_Q32,F_Q32⟩:∃ d,Fun K "_law_bent" "_law_bent" mO f_Q32 d:=⟨_,be l_Q32 c_Q32 k_Q32⟩
 obtain⟨d_Q21,F_Q21⟩:∃ d,Fun K "_law_tried" "_law_tried" mX f_Q21 d:=⟨_,be l_Q21 c_Q21 k_Q21⟩
 obtain⟨d_Q22,F_Q22⟩:∃ d,Fun K "_law_right" "_law_right" mW f_Q22 d:=⟨_,be l_Q22 c_Q22 k_Q22⟩
 have F_Q52:=be (st:=iW) l_Q52 c_Q52 k_Q52
 have F_Q23:=be (st:=iX) l_Q23 cd_Q23_ ki_Q23
 have T:eR K mg ⟨f_Q25,d_Q25,f_Q10,d_Q10,f_Q8,d_Q8,f_Q15,d_Q15,f_Q43,d_Q43,f_Q0,d_Q0,f_Q47,d_Q47,f_Q50,d_Q50,f_Q48,d_Q48,f_Q51,d_Q51,f_Q33,d_Q33,f_Q49,d_Q49,f_Q5,d_Q5,f_Q2,d_Q2,f_Q3,d_Q3,f_Q11,d_Q11,f_Q26,d_Q26,f_Q12,d_Q12,f_Q6,d_Q6,f_Q4,d_Q4,f_Q27,d_Q27,f_Q28,d_Q28,f_Q16,d_Q16,f_Q29,d_Q29,f_Q34,d_Q34,f_Q35,d_Q35,f_Q30,d_Q30,f_Q36,d_Q36,f_Q17,d_Q17,f_Q18,d_Q18,f_Q9,d_Q9,f_Q13,d_Q13,f_Q31,d_Q31,f_Q1,d_Q1,f_Q19,d_Q19,f_Q37,d_Q37,f_Q14,d_Q14,f_Q20,d_Q20,f_Q7,d_Q7,f_Q32,d_Q32,f_Q21,d_Q21,f_Q22,d_Q22,fa,fnOf "law" "law" (aQ iW) (aI iW) (ai iW) .none kV_Q52 dc_Q52 pm_Q52 an_Q52 cd_Q52 ct_Q52,f_NOUGHT,tkTURNS,cB,c_Q23,i_Q23,fnOf "__init__" "NoStretch.__init__" (aQ iX) (aI iX) (ai iX) .none kV_Q23 dc_Q23 pm_Q23 an_Q23 cd_Q23 ct_Q23,c_Q24,c_Q38,c_Q44,c_Q45,c_Q39,c_Q46,c_Q40,c_Q41,c_Q42⟩:={
  F_Q25:=F_Q25,b_Q25:=fk F_Q25,m_Q25:=mg_of X G p_Q25,
  F_Q10:=F_Q10,b_Q10:=fk F_Q10,m_Q10:=mg_of X G p_Q10,
  F_Q8:=F_Q8,b_Q8:=fk F_Q8,m_Q8:=mg_of X G p_Q8,
  F_Q15:=F_Q15,b_Q15:=fk F_Q15,m_Q15:=mg_of X G p_Q15,
  F_Q43:=F_Q43,b_Q43:=fk F_Q43,m_Q43:=mg_of X G p_Q43,
  F_Q0:=F_Q0,b_Q0:=fk F_Q0,m_Q0:=mg_of X G p_Q0,
  F_Q47:=F_Q47,b_Q47:=fk F_Q47,m_Q47:=mg_of X G p_Q47,
  F_Q50:=F_Q50,b_Q50:=fk F_Q50,m_Q50:=mg_of X G p_Q50,
  F_Q48:=F_Q48,b_Q48:=fk F_Q48,m_Q48:=mg_of X G p_Q48,
  F_Q51:=F_Q51,b_Q51:=fk F_Q51,m_Q51:=mg_of X G p_Q51,
  F_Q33:=F_Q33,b_Q33:=fk F_Q33,m_Q33:=mg_of X G p_Q33,
  F_Q49:=F_Q49,b_Q49:=fk F_Q49,m_Q49:=mg_of X G p_Q49,
  F_Q5:=F_Q5,b_Q5:=fk F_Q5,m_Q5:=mg_of X G p_Q5,
  F_Q2:=F_Q2,b_Q2:=fk F_Q2,m_Q2:=mg_of X G p_Q2,
  F_Q3:=F_Q3,b_Q3:=fk F_Q3,m_Q3:=mg_of X G p_Q3,
  F_Q11:=F_Q11,b_Q11:=fk F_Q11,m_Q11:=mg_of X G p_Q11,
  F_Q26:=F_Q26,b_Q26:=fk F_Q26,m_Q26:=mg_of X G p_Q26,
  F_Q12:=F_Q12,b_Q12:=fk F_Q12,m_Q12:=mg_of X G p_Q12,
  F_Q6:=F_Q6,b_Q6:=fk F_Q6,m_Q6:=mg_of X G p_Q6,
  F_Q4:=F_Q4,b_Q4:=fk F_Q4,m_Q4:=mg_of X G p_Q4,
  F_Q27:=F_Q27,b_Q27:=fk F_Q27,m_Q27:=mg_of X G p_Q27,
  F_Q28:=F_Q28,b_Q28:=fk F_Q28,m_Q28:=mg_of X G p_Q28,
  F_Q16:=F_Q16,b_Q16:=fk F_Q16,m_Q16:=mg_of X G p_Q16,
  F_Q29:=F_Q29,b_Q29:=fk F_Q29,m_Q29:=mg_of X G p_Q29,
  F_Q34:=F_Q34,b_Q34:=fk F_Q34,m_Q34:=mg_of X G p_Q34,
  F_Q35:=F_Q35,b_Q35:=fk F_Q35,m_Q35:=mg_of X G p_Q35,
  F_Q30:=F_Q30,b_Q30:=fk F_Q30,m_Q30:=mg_of X G p_Q30,
  F_Q36:=F_Q36,b_Q36:=fk F_Q36,m_Q36:=mg_of X G p_Q36,
  F_Q17:=F_Q17,b_Q17:=fk F_Q17,m_Q17:=mg_of X G p_Q17,
  F_Q18:=F_Q18,b_Q18:=fk F_Q18,m_Q18:=mg_of X G p_Q18,
  F_Q9:=F_Q9,b_Q9:=fk F_Q9,m_Q9:=mg_of X G p_Q9,
  F_Q13:=F_Q13,b_Q13:=fk F_Q13,m_Q13:=mg_of X G p_Q13,
  F_Q31:=F_Q31,b_Q31:=fk F_Q31,m_Q31:=mg_of X G p_Q31,
  F_Q1:=F_Q1,b_Q1:=fk F_Q1,m_Q1:=mg_of X G p_Q1,
  F_Q19:=F_Q19,b_Q19:=fk F_Q19,m_Q19:=mg_of X G p_Q19,
  F_Q37:=F_Q37,b_Q37:=fk F_Q37,m_Q37:=mg_of X G p_Q37,
  F_Q14:=F_Q14,b_Q14:=fk F_Q14,m_Q14:=mg_of X G p_Q14,
  F_Q20:=F_Q20,b_Q20:=fk F_Q20,m_Q20:=mg_of X G p_Q20,
  F_Q7:=F_Q7,b_Q7:=fk F_Q7,m_Q7:=mg_of X G p_Q7,
  F_Q32:=F_Q32,b_Q32:=fk F_Q32,m_Q32:=mg_of X G p_Q32,
  F_Q21:=F_Q21,b_Q21:=fk F_Q21,m_Q21:=mg_of X G p_Q21,
  F_Q22:=F_Q22,b_Q22:=fk F_Q22,m_Q22:=mg_of X G p_Q22,
  F_Q52:=F_Q52,b_Q52:=fk F_Q52,m_Q52:=mg_of X G p_Q52,
  m_NOUGHT:=mg_of X G p_NOUGHT,q_NOUGHT:=fun H=>.inr ⟨_,_,_,l_NOUGHT,rfl,rfl,dE,(.cons ⟨_,rfl⟩ (.cons ⟨_,rfl⟩ .nil))⟩,
  m_TURNS:=mg_of X G p_TURNS,
  X_Q23:=Dx lc_Q23 lB lnB hsB hnB fi_Q23 ti_Q23 kc_Q23 hh_Q23 sa_Q23,F_Q23:=F_Q23,b_Q23:=fk F_Q23,m_Q23:=mg_of X G p_Q23,n_Q23_word:=na_Q23_word,n_Q23_number:=na_Q23_number,g_Q23:=⟨ga_Q23,gn_Q23,cl_Q23,cgB,ctB⟩,
  m_Q24:=mg_of X G p_Q24,
  m_Q38:=mg_of X G p_Q38,
  m_Q44:=mg_of X G p_Q44,
  m_Q45:=mg_of X G p_Q45,
  m_Q39:=mg_of X G p_Q39,
  m_Q46:=mg_of X G p_Q46,
  m_Q40:=mg_of X G p_Q40,
  m_Q41:=mg_of X G p_Q41,
  m_Q42:=mg_of X G p_Q42,
  x_catch:=w_x_catch,
  y_self:=w_y_self,
  y_base:=w_y_base,
  y_val:=w_y_val,
  y_not:=w_y_not,
  z_ValueError:=mg_none_of X G z_ValueError,z_abs:=mg_none_of X G z_abs,z_all:=mg_none_of X G z_all,z_any:=mg_none_of X G z_any,z_bool:=mg_none_of X G z_bool,z_enumerate:=mg_none_of X G z_enumerate,z_int:=mg_none_of X G z_int,z_isinstance:=mg_none_of X G z_isinstance,z_len:=mg_none_of X G z_len,z_list:=mg_none_of X G z_list,z_range:=mg_none_of X G z_range,z_repr:=mg_none_of X G z_repr,z_set:=mg_none_of X G z_set,z_sorted:=mg_none_of X G z_sorted,z_str:=mg_none_of X G z_str,z_sum:=mg_none_of X G z_sum,z_tuple:=mg_none_of X G z_tuple }
 exact⟨_,fun s v=>.of_eq rfl,fun base _ _=>Ch T⟩
theorem walk {l:PySem.W.OpenLaw} {q:Program} {loose:List Str} {XP:(Str->Option Value)->Heap->Prop} {YP:World->Heap->Prop} {d:DefRec} {K:Params->Fg} (hn:l.most=some 63) (hdf:d.params.defaults=[])
  (hY:∀ (w:World) (h:Heap),YP w h->(K w.params).In h)
  (F:∀ (w:World) (mg:Str->Option Value) (fa:Addr) (h:Heap),(K w.params).In h->h.Ns mainGlobals mg->mg d.name=some (.ref fa)→
   ∃ fd:FuncData,(∀ (s:Shared) (u:Value),BindsTo s fd ⟨[u],[]⟩ [("_law_script", u)])/\∀ base:Heap,(K w.params).In base->base.Ns mainGlobals mg->bK l.prog w (K w.params) mg base d9 9 fa fd ["_law_script"] (oz (K w.params))) :
  PySem.W.WalkO q loose XP YP l.row.toRowW d [] (fun f vs=>PySem.call f vs):=
 L2.walk_of (n:=63) (k:=9) (x := "_law_script") (CX:=fun _=>d9) (sp:=fun w=>oz (K w.params)) hn (by decide) hdf ⟨rfl,by decide,by decide,rfl⟩ hY F (fun _ _ a ns hl _ hS=>⟨a,ns,rfl,hS,hl,fun _=>rfl⟩) fun _ _ _ _ _ z=>z
end My
open PySem PySem.W PyProof.Rows
set_option maxRecDepth 100000 in
set_option maxHeartbeats 0 in
theorem PySem.Challenge.cw_paceplan_k35_papers_of_stretches_asked_holds : PySem.Challenge.rw_paceplan_k35_papers_of_stretches_asked.Holds := by
 w_on;refine HWtop ?_
 k_fill
 refine My.walk (l:=PySem.Challenge.rw_paceplan_k35_papers_of_stretches_asked) rfl rfl (fun w h Y=>PySem.W.kIn_of Y) ?F
 case F=>
  intro w mg fa h KX G hmg
  refine' My.all_mk KX G hmg ?p_Q25 ?l_Q25 ?c_Q25 ?k_Q25 ?p_Q10 ?l_Q10 ?c_Q10 ?k_Q10 ?p_Q8 ?l_Q8 ?c_Q8 ?k_Q8 ?p_Q15 ?l_Q15 ?c_Q15 ?k_Q15 ?p_Q43 ?l_Q43 ?c_Q43 ?k_Q43 ?p_Q0 ?l_Q0 ?c_Q0 ?k_Q0 ?p_Q47 ?l_Q47 ?c_Q47 ?k_Q47 ?p_Q50 ?l_Q50 ?c_Q50 ?k_Q50 ?p_Q48 ?l_Q48 ?c_Q48 ?k_Q48 ?p_Q51 ?l_Q51 ?c_Q51 ?k_Q51 ?p_Q33 ?l_Q33 ?c_Q33 ?k_Q33 ?p_Q49 ?l_Q49 ?c_Q49 ?k_Q49 ?p_Q5 ?l_Q5 ?c_Q5 ?k_Q5 ?p_Q2 ?l_Q2 ?c_Q2 ?k_Q2 ?p_Q3 ?l_Q3 ?c_Q3 ?k_Q3 ?p_Q11 ?l_Q11 ?c_Q11 ?k_Q11 ?p_Q26 ?l_Q26 ?c_Q26 ?k_Q26 ?p_Q12 ?l_Q12 ?c_Q12 ?k_Q12 ?p_Q6 ?l_Q6 ?c_Q6 ?k_Q6 ?p_Q4 ?l_Q4 ?c_Q4 ?k_Q4 ?p_Q27 ?l_Q27 ?c_Q27 ?k_Q27 ?p_Q28 ?l_Q28 ?c_Q28 ?k_Q28 ?p_Q16 ?l_Q16 ?c_Q16 ?k_Q16 ?p_Q29 ?l_Q29 ?c_Q29 ?k_Q29 ?p_Q34 ?l_Q34 ?c_Q34 ?k_Q34 ?p_Q35 ?l_Q35 ?c_Q35 ?k_Q35 ?p_Q30 ?l_Q30 ?c_Q30 ?k_Q30 ?p_Q36 ?l_Q36 ?c_Q36 ?k_Q36 ?p_Q17 ?l_Q17 ?c_Q17 ?k_Q17 ?p_Q18 ?l_Q18 ?c_Q18 ?k_Q18 ?p_Q9 ?l_Q9 ?c_Q9 ?k_Q9 ?p_Q13 ?l_Q13 ?c_Q13 ?k_Q13 ?p_Q31 ?l_Q31 ?c_Q31 ?k_Q31 ?p_Q1 ?l_Q1 ?c_Q1 ?k_Q1 ?p_Q19 ?l_Q19 ?c_Q19 ?k_Q19 ?p_Q37 ?l_Q37 ?c_Q37 ?k_Q37 ?p_Q14 ?l_Q14 ?c_Q14 ?k_Q14 ?p_Q20 ?l_Q20 ?c_Q20 ?k_Q20 ?p_Q7 ?l_Q7 ?c_Q7 ?k_Q7 ?p_Q32 ?l_Q32 ?c_Q32 ?k_Q32 ?p_Q21 ?l_Q21 ?c_Q21 ?k_Q21 ?p_Q22 ?l_Q22 ?c_Q22 ?k_Q22 ?p_Q52 ?l_Q52 ?c_Q52 ?k_Q52 ?p_NOUGHT ?l_NOUGHT ?p_TURNS ?pB ?lB ?lnB ?hsB ?hnB ?cgB ?ctB ?p_Q23 ?lc_Q23 ?fi_Q23 ?l_Q23 ?cd_Q23_ ?ki_Q23 ?ti_Q23 ?kc_Q23 ?hh_Q23 ?sa_Q23 ?na_Q23_word ?na_Q23_number ?ga_Q23 ?gn_Q23 ?cl_Q23 ?p_Q24 ?p_Q38 ?p_Q44 ?p_Q45 ?p_Q39 ?p_Q46 ?p_Q40 ?p_Q41 ?p_Q42 ?w_x_catch ?w_y_self ?w_y_base ?w_y_val ?w_y_not ?z_ValueError ?z_abs ?z_all ?z_any ?z_bool ?z_enumerate ?z_int ?z_isinstance ?z_len ?z_list ?z_range ?z_repr ?z_set ?z_sorted ?z_str ?z_sum ?z_tuple
  (case p_Q25=>k_is)
  (case l_Q25=>k_is)
  (case c_Q25=>k_is)
  (case k_Q25=>k_is)
  (case p_Q10=>k_is)
  (case l_Q10=>k_is)
  (case c_Q10=>k_is)
  (case k_Q10=>k_is)
  (case p_Q8=>k_is)
  (case l_Q8=>k_is)
  (case c_Q8=>k_is)
  (case k_Q8=>k_is)
  (case p_Q15=>k_is)
  (case l_Q15=>k_is)
  (case c_Q15=>k_is)
  (case k_Q15=>k_is)
  (case p_Q43=>k_is)
  (case l_Q43=>k_is)
  (case c_Q43=>k_is)
  (case k_Q43=>k_is)
  (case p_Q0=>k_is)
  (case l_Q0=>k_is)
  (case c_Q0=>k_is)
  (case k_Q0=>k_is)
  (case p_Q47=>k_is)
  (case l_Q47=>k_is)
  (case c_Q47=>k_is)
  (case k_Q47=>k_is)
  (case p_Q50=>k_is)
  (case l_Q50=>k_is)
  (case c_Q50=>k_is)
  (case k_Q50=>k_is)
  (case p_Q48=>k_is)
  (case l_Q48=>k_is)
  (case c_Q48=>k_is)
  (case k_Q48=>k_is)
  (case p_Q51=>k_is)
  (case l_Q51=>k_is)
  (case c_Q51=>k_is)
  (case k_Q51=>k_is)
  (case p_Q33=>k_is)
  (case l_Q33=>k_is)
  (case c_Q33=>k_is)
  (case k_Q33=>k_is)
  (case p_Q49=>k_is)
  (case l_Q49=>k_is)
  (case c_Q49=>k_is)
  (case k_Q49=>k_is)
  (case p_Q5=>k_is)
  (case l_Q5=>k_is)
  (case c_Q5=>k_is)
  (case k_Q5=>k_is)
  (case p_Q2=>k_is)
  (case l_Q2=>k_is)
  (case c_Q2=>k_is)
  (case k_Q2=>k_is)
  (case p_Q3=>k_is)
  (case l_Q3=>k_is)
  (case c_Q3=>k_is)
  (case k_Q3=>k_is)
  (case p_Q11=>k_is)
  (case l_Q11=>k_is)
  (case c_Q11=>k_is)
  (case k_Q11=>k_is)
  (case p_Q26=>k_is)
  (case l_Q26=>k_is)
  (case c_Q26=>k_is)
  (case k_Q26=>k_is)
  (case p_Q12=>k_is)
  (case l_Q12=>k_is)
  (case c_Q12=>k_is)
  (case k_Q12=>k_is)
  (case p_Q6=>k_is)
  (case l_Q6=>k_is)
  (case c_Q6=>k_is)
  (case k_Q6=>k_is)
  (case p_Q4=>k_is)
  (case l_Q4=>k_is)
  (case c_Q4=>k_is)
  (case k_Q4=>k_is)
  (case p_Q27=>k_is)
  (case l_Q27=>k_is)
  (case c_Q27=>k_is)
  (case k_Q27=>k_is)
  (case p_Q28=>k_is)
  (case l_Q28=>k_is)
  (case c_Q28=>k_is)
  (case k_Q28=>k_is)
  (case p_Q16=>k_is)
  (case l_Q16=>k_is)
  (case c_Q16=>k_is)
  (case k_Q16=>k_is)
  (case p_Q29=>k_is)
  (case l_Q29=>k_is)
  (case c_Q29=>k_is)
  (case k_Q29=>k_is)
  (case p_Q34=>k_is)
  (case l_Q34=>k_is)
  (case c_Q34=>k_is)
  (case k_Q34=>k_is)
  (case p_Q35=>k_is)
  (case l_Q35=>k_is)
  (case c_Q35=>k_is)
  (case k_Q35=>k_is)
  (case p_Q30=>k_is)
  (case l_Q30=>k_is)
  (case c_Q30=>k_is)
  (case k_Q30=>k_is)
  (case p_Q36=>k_is)
  (case l_Q36=>k_is)
  (case c_Q36=>k_is)
  (case k_Q36=>k_is)
  (case p_Q17=>k_is)
  (case l_Q17=>k_is)
  (case c_Q17=>k_is)
  (case k_Q17=>k_is)
  (case p_Q18=>k_is)
  (case l_Q18=>k_is)
  (case c_Q18=>k_is)
  (case k_Q18=>k_is)
  (case p_Q9=>k_is)
  (case l_Q9=>k_is)
  (case c_Q9=>k_is)
  (case k_Q9=>k_is)
  (case p_Q13=>k_is)
  (case l_Q13=>k_is)
  (case c_Q13=>k_is)
  (case k_Q13=>k_is)
  (case p_Q31=>k_is)
  (case l_Q31=>k_is)
  (case c_Q31=>k_is)
  (case k_Q31=>k_is)
  (case p_Q1=>k_is)
  (case l_Q1=>k_is)
  (case c_Q1=>k_is)
  (case k_Q1=>k_is)
  (case p_Q19=>k_is)
  (case l_Q19=>k_is)
  (case c_Q19=>k_is)
  (case k_Q19=>k_is)
  (case p_Q37=>k_is)
  (case l_Q37=>k_is)
  (case c_Q37=>k_is)
  (case k_Q37=>k_is)
  (case p_Q14=>k_is)
  (case l_Q14=>k_is)
  (case c_Q14=>k_is)
  (case k_Q14=>k_is)
  (case p_Q20=>k_is)
  (case l_Q20=>k_is)
  (case c_Q20=>k_is)
  (case k_Q20=>k_is)
  (case p_Q7=>k_is)
  (case l_Q7=>k_is)
  (case c_Q7=>k_is)
  (case k_Q7=>k_is)
  (case p_Q32=>k_is)
  (case l_Q32=>k_is)
  (case c_Q32=>k_is)
  (case k_Q32=>k_is)
  (case p_Q21=>k_is)
  (case l_Q21=>k_is)
  (case c_Q21=>k_is)
  (case k_Q21=>k_is)
  (case p_Q22=>k_is)
  (case l_Q22=>k_is)
  (case c_Q22=>k_is)
  (case k_Q22=>k_is)
  (case p_Q52=>k_is)
  (case l_Q52=>k_is)
  (case c_Q52=>k_is)
  (case k_Q52=>k_is)
  (case p_NOUGHT=>k_is)
  (case l_NOUGHT=>k_is)
  (case p_TURNS=>k_is)
  (case pB=>k_is)
  (case lB=>k_is)
  (case lnB=>k_is)
  (case hsB=>rfl)
  (case hnB=>rfl)
  (case cgB=>k_is)
  (case ctB=>k_is)
  (case p_Q23=>k_is)
  (case lc_Q23=>k_is)
  (case fi_Q23=>k_is)
  (case l_Q23=>k_is)
  (case cd_Q23_=>k_is)
  (case ki_Q23=>k_is)
  (case ti_Q23=>k_is)
  (case kc_Q23=>k_is)
  (case hh_Q23=>k_is)
  (case sa_Q23=>k_is)
  (case na_Q23_word=>k_is)
  (case na_Q23_number=>k_is)
  (case ga_Q23=>k_is)
  (case gn_Q23=>k_is)
  (case cl_Q23=>k_is)
  (case p_Q24=>k_is)
  (case p_Q38=>k_is)
  (case p_Q44=>k_is)
  (case p_Q45=>k_is)
  (case p_Q39=>k_is)
  (case p_Q46=>k_is)
  (case p_Q40=>k_is)
  (case p_Q41=>k_is)
  (case p_Q42=>k_is)
  (case w_x_catch=>kts_exm)
  (case w_y_self=>kit_is)
  (case w_y_base=>kit_is)
  (case w_y_val=>kit_is)
  (case w_y_not=>kit_is)
  (case z_ValueError=>k_is)
  (case z_abs=>k_is)
  (case z_all=>k_is)
  (case z_any=>k_is)
  (case z_bool=>k_is)
  (case z_enumerate=>k_is)
  (case z_int=>k_is)
  (case z_isinstance=>k_is)
  (case z_len=>k_is)
  (case z_list=>k_is)
  (case z_range=>k_is)
  (case z_repr=>k_is)
  (case z_set=>k_is)
  (case z_sorted=>k_is)
  (case z_str=>k_is)
  (case z_sum=>k_is)
  (case z_tuple=>k_is)
