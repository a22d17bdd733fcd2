import PyProof.Rows.All
import KE.RegKIsAll
import KE.RegKTryMore
import KE.KItem
import PySem.Challenge.RW_paceplan_k60_work_speeds
set_option Elab.async false
set_option linter.all false
set_option maxRecDepth 100000
theorem vS {α β γ:Type} {o:Option α} {f:α->β} {g:α->γ} {a:β} {b:γ} (h1:o.map f=some a) (h2:o.map g=some b):o.map (fun s=>(f s,g s))=some (a,b):=by
 cases o with
 | none=>cases h1
 | some x=>cases h1;cases h2;rfl
namespace HW
open PySem
def keep:List Nat:=[1,2,4,5,6,7,8,9,10,11,13,14,16,17,18,19,20,21,23,24,25,26,27,28,29,30,31,32,33,34,35,36]
def V:Program:=PySem.W.view PySem.Challenge.pw_paceplan_k60_work_speeds keep
end HW
section HWs
open PySem PySem.W PyProof.Rows
set_option maxHeartbeats 0 in
theorem HWa:∀ w:World,(openEnds treeTable PySem.Challenge.rw_paceplan_k60_work_speeds.row.prog w 3742).map (fun s=>openSeen HW.V [] (importedModules PySem.Challenge.rw_paceplan_k60_work_speeds.row.prog.main.body) (fun s=>xlAt HW.V [] s && recOk PySem.Challenge.rw_paceplan_k60_work_speeds.row.records s) true s)=some (openGood HW.V []):=by
 intro w
 delta openEnds fencedOpening topFrom
 rw [PySem.W.Fast.te14364793385576792824,PySem.W.Fast.te14082659384304107361,PySem.W.Fast.te10274390034422433532,PySem.W.Fast.te1435165496053646825,PySem.W.Fast.te14289696077712309145,PySem.W.Fast.te4187177175401517315]
 kernel_rfl
local macro_rules
 | `(tactic| o_head $H:term) => `(tactic| (
   refine holds_open (q:=HW.V) (loose:=[]) (N:=3742)
    (Xt:=fun s=>xlAt HW.V [] s && recOk (RowW.records (OpenRow.toRowW (OpenLaw.row PySem.Challenge.rw_paceplan_k60_work_speeds))) s)
    (XP:=XL HW.V []) (Yf:=Hook.obs $H) (Ya:=Hook.val $H) (YP:=Hook.says $H)
    ?hl (Hook.of $H) (Hook.keeps $H)
    (fun s e=>xl_of s (Bool.and_eq_true_iff.mp e).1) XL.keeps
    (by rfl) (by rfl) (by rfl)
    (fun s e=>recFacts_of (Bool.and_eq_true_iff.mp e).2) (by rfl) (by assumption) (by decide +kernel)
    ⟨rfl,rfl,rfl,rfl,rfl,by decide +kernel⟩ ?hw ?hc
   (case hl=>
    intro w
    refine vS (HWa w) ?_
    delta openEnds fencedOpening topFrom
    rw [PySem.W.Fast.te14364793385576792824,PySem.W.Fast.te14082659384304107361,PySem.W.Fast.te10274390034422433532,PySem.W.Fast.te1435165496053646825,PySem.W.Fast.te14289696077712309145]
    kernel_rfl)))
set_option maxHeartbeats 0 in
open_top HWtop for PySem.Challenge.rw_paceplan_k60_work_speeds
end HWs
theorem wN:1≤PySem.sizeLine:=by decide
theorem lu:2≤PySem.sizeLine:=by decide
theorem EH:3≤PySem.sizeLine:=by decide
theorem DF:6≤PySem.sizeLine:=by decide
namespace L2
open PySem PySem.Spec PyProof.Rows
abbrev bR:=Sum Int Str
def i3:bR->Value->Bool
 | .inl k,v=>Value.isInt k v
 | .inr x,v=>Value.isStrOf x v
def Dh (w:World):bR->Int
 | .inl k=>hashInt k
 | .inr x=>hashStr w x
theorem bv:∀ {k:bR} {v:Value},i3 k v=true->(∃ i t,k=Sum.inl i/\v=Value.int i t)∨(∃ x t,k=Sum.inr x/\v=Value.str x t)
 | .inl i,v,h=>by
  obtain⟨t,e⟩:=Value.isInt_shape (k:=i) (v:=v) h
  exact .inl ⟨i,t,rfl,e⟩
 | .inr x,v,h=>by
  obtain⟨t,e⟩:=Value.isStrOf_shape (x:=x) (v:=v) h
  exact .inr ⟨x,t,rfl,e⟩
theorem p4 (i:Int) (t:Tok):i3 (.inl i) (.int i t)=true:=by simp [i3,Value.isInt]
theorem pZ (x:Str) (t:Tok):i3 (.inr x) (.str x t)=true:=by simp [i3,Value.isStrOf]
theorem zS (a b:Int):decide ((Sum.inl a:bR)=Sum.inl b)=(a == b):=by
 by_cases e:a=b
 ·subst e;simp
 ·have h:¬ (Sum.inl a:bR)=Sum.inl b:=fun q=>e (Sum.inl.inj q)
  rw [decide_eq_false h]
  exact (beq_eq_false_iff_ne.mpr e).symm
theorem zP (a b:Str):decide ((Sum.inr a:bR)=Sum.inr b)=decide (a=b):=by
 by_cases e:a=b
 ·subst e;simp
 ·have h:¬ (Sum.inr a:bR)=Sum.inr b:=fun q=>e (Sum.inr.inj q)
  rw [decide_eq_false h,decide_eq_false e]
theorem zR (a:Int) (b:Str):decide ((Sum.inl a:bR)=Sum.inr b)=false:=decide_eq_false (fun q=>nomatch q)
theorem zQ (a:Str) (b:Int):decide ((Sum.inr a:bR)=Sum.inl b)=false:=decide_eq_false (fun q=>nomatch q)
def ba (prog:Program) (w:World):PySem.KeyKind prog w bR where
 is:=i3
 hash:=Dh w
 inj:=fun v a b ha hb=>by
  rcases bv ha with ⟨i,t,rfl,rfl⟩ | ⟨x,t,rfl,rfl⟩
  ·rcases bv hb with ⟨j,u,rfl,e⟩ | ⟨y,u,rfl,e⟩
   ·injection e with e1 _;rw [e1]
   ·exact nomatch e
  ·rcases bv hb with ⟨j,u,rfl,e⟩ | ⟨y,u,rfl,e⟩
   ·exact nomatch e
   ·injection e with e1 _;rw [e1]
 byValue:=fun k v h=>by
  rcases bv h with ⟨i,t,rfl,rfl⟩ | ⟨x,t,rfl,rfl⟩ <;> rfl
 pyHash:=fun hv h=>by
  rcases bv hv with ⟨i,t,rfl,rfl⟩ | ⟨x,t,rfl,rfl⟩
  ·exact wpAny_pyHash_int h
  ·exact wpAny_pyHash_str h
 eqBool:=fun hu hv h=>by
  rcases bv hu with ⟨i,t,rfl,rfl⟩ | ⟨x,t,rfl,rfl⟩
  ·rcases bv hv with ⟨j,u,rfl,rfl⟩ | ⟨y,u,rfl,rfl⟩
   ·rw [zS] at h;exact wpAny_eqBool_int h
   ·rw [zR] at h;exact SeqAt.EqAt.int_str i t y u _ _ _ _ h
  ·rcases bv hv with ⟨j,u,rfl,rfl⟩ | ⟨y,u,rfl,rfl⟩
   ·rw [zQ] at h;exact SeqAt.EqAt.str_int x t j u _ _ _ _ h
   ·rw [zP] at h;exact wpAny_eqBool_str h
 «strs»:=fun k x t v h=>by
  rcases bv h with ⟨i,u,rfl,e⟩ | ⟨y,u,rfl,e⟩
  ·exact nomatch e
  ·injection e with e1 _
   subst e1
   cases v <;> rfl
theorem lY (prog:Program) (w:World) (i:Int) (t:Tok):(ba prog w).is (.inl i) (.int i t)=true:=p4 i t
theorem lX (prog:Program) (w:World) (x:Str) (t:Tok):(ba prog w).is (.inr x) (.str x t)=true:=pZ x t
end L2
namespace L2
open PySem PySem.Spec PyProof.Rows
inductive V where
 | non | bl (b:Bool) | int (i:Int) | str (x:Str) | byt (b:Array UInt8) | flt (b:UInt64) | ref (a:Addr) | ty (n:String)
 deriving DecidableEq
def aO:V->Value->Prop
 | .non,u=>u=Value.none
 | .bl b,u=>u=Value.bool b
 | .int i,u=>∃ t,u=Value.int i t
 | .str x,u=>∃ t,u=Value.str x t
 | .byt b,u=>∃ t,u=Value.bytes b t
 | .flt b,u=>∃ t,u=Value.float b t
 | .ref a,u=>u=Value.ref a
 | .ty n,u=>u=Value.type n
abbrev aR:List V->List Value->Prop:=Paired aO
theorem aR.length {xs:List V} {us:List Value} (r:aR xs us):xs.length=us.length:=Paired.length r
theorem aR.get:∀ {xs:List V} {us:List Value} {i:Nat} {x:V},aR xs us->xs[i]?=some x->∃ u,us[i]?=some u/\aO x u
 | _,_,_,_,.nil,e=>by simp at e
 | _,_,0,_,.cons r _,e=>by simp at e;subst e;exact⟨_,rfl,r⟩
 | _,_,i+1,x,.cons _ t,e=>by
  obtain⟨u,h1,h2⟩:=aR.get (i:=i) (x:=x) t (by simpa using e)
  exact⟨u,by simpa using h1,h2⟩
theorem aR.set {x:V} {u:Value} (r:aO x u):∀ {xs:List V} {us:List Value} (i:Nat),aR xs us->aR (xs.set i x) (us.set i u)
 | _,_,_,.nil=>.nil
 | _,_,0,.cons _ t=>.cons r t
 | _,_,i+1,.cons q t=>.cons q (aR.set r i t)
theorem aR.append:∀ {xs ys:List V} {us ws:List Value},aR xs us->aR ys ws->aR (xs++ys) (us++ws)
 | _,_,_,_,.nil,s=>s
 | _,_,_,_,.cons r t,s=>.cons r (aR.append t s)
theorem aR.take:∀ {xs:List V} {us:List Value} (n:Nat),aR xs us->aR (xs.take n) (us.take n)
 | _,_,0,_=>.nil
 | _,_,_+1,.nil=>.nil
 | _,_,n+1,.cons r t=>.cons r (aR.take n t)
theorem aR.drop:∀ {xs:List V} {us:List Value} (n:Nat),aR xs us->aR (xs.drop n) (us.drop n)
 | _,_,0,r=>r
 | _,_,_+1,.nil=>.nil
 | _,_,n+1,.cons _ t=>aR.drop n t
def eE:Option V->Option Value->Prop
 | some v,some u=>aO v u
 | none,none=>True
 | _,_=>False
def KV {κ:Type}:List (κ×V)->List (κ×Value)->Prop:=Paired fun (p:κ×V) (q:κ×Value)=>p.1=q.1/\aO p.2 q.2
def kV:bR->V
 | .inl i=>.int i
 | .inr x=>.str x
inductive HO where
 | lst (xs:List V)
 | tup (xs:List V)
 | dK (kvs:List (bR×V)) | dT (kvs:List (List bR×V))
 | set (S:Int->Bool) (n:Nat)
 | ins (C dx:Addr) (fs:List (Str×V))
 | own (x:Addr)
 | xd (fs:List (Str×V))
 | met (f x:Addr)
 | rng (lo hi:Int)
 | frz (o:Obj) (u:HO)
 | tbl (ps:Array Value)
 | ext (φ:Heap->Prop)
abbrev Hp:=Addr->Option HO
def ax (H:Hp) (a:Addr) (o:HO):Hp:=fun b=>if b=a then some o else H b
theorem ae {H:Hp} {a:Addr} {o:HO}:ax H a o a=some o:=by unfold ax;rw [if_pos rfl]
theorem aj {H:Hp} {a b:Addr} {o:HO} (h:b≠a):ax H a o b=H b:=by unfold ax;rw [if_neg h]
theorem BK {H:Hp} {a b:Addr} {o u:HO} (h:H a=some o) (h':H b=some u) (d:o≠u):a≠b:=by
 intro e;subst e;rw [h] at h';exact d (Option.some.inj h')
theorem ay {H:Hp} {a b:Addr} {o:HO} (h:H a=some o) (h':H b=none):a≠b:=by
 intro e;subst e;rw [h] at h';cases h'
section
variable (P:Program) (w:World)
def bf (H:Hp) (h:Heap) (a:Addr):HO->Prop
 | .lst xs=>xs.length≤sizeLine/\∃ (its:List Value) (n:Nat),aR xs its/\h.get? a=some { cls:=.type "list", data:=.seq its.toArray n }
 | .tup xs=>xs.length≤sizeLine/\∃ its:List Value,aR xs its/\IsTup h a its.toArray
 | .dK kvs=>kvs.length≤sizeLine/\(a == sysModules)=false/\∃ vs,KV kvs vs/\h.DictOf (ba P w) a vs
 | .dT kvs=>kvs.length≤sizeLine/\(a == sysModules)=false/\∃ xs:List (List bR×Addr×Value),
   Paired (fun (p:List bR×V) (q:List bR×Addr×Value)=>p.1=q.1/\H q.2.1=some (.tup (p.1.map kV))/\aO p.2 q.2.2) kvs xs∧
   ∃ o es ep,h.get? a=some o/\o.ExactDict/\o.data=.dict es ep/\es.toList=xs.map (entryOfKey (tupleKind (ba P w)))/\(xs.map (·.1)).Nodup
 | .set S n=>h.SetOf (intKind P w) a S n
 | .ins C dx fs=>H dx=some (.own a)/\fs.length≤1000/\dx≠a/\h.get? a=some (PySem.W.instObj C dx)∧
   ∃ mA,h.Ns1 dx mA/\(∀ f,eE (fs.lookup f) (mA f))/\PySem.Within mA (fs.map (·.1))
 | .own _=>∃ o,h.get? a=some o
 | .xd fs=>∃ mA,h.Ns1 a mA/\∀ f,eE (fs.lookup f) (mA f)
 | .rng lo hi=>∃ t u v,h.get? a=some { cls:=.type "range", data:=.fields #[.int lo t,.int hi u,.int 1 v] }
 | .frz o u=>h.get? a=some o/\bf H h a u
 | .tbl ps=>h.get? a=some { cls:=.none,data:=.fields ps }
 | .met f x=>h.get? a=some (PySem.W.methodObj (.ref f) (.ref x))
 | .ext φ=>φ h/\(∃ o,h.get? a=some o)/\∀ h1 h2:Heap,φ h1->(∀ o,h1.get? a=some o->h2.get? a=some o)->φ h2
def fN (H:Hp) (h:Heap):Prop:=∀ a o,H a=some o->bf P w H h a o
end
section
variable {P:Program} {w:World} {H H':Hp} {h h':Heap} {a:Addr} {o:HO}
theorem bf.lt (x:bf P w H h a o):a < h.objs.size:=by
 cases o with
 | lst xs=>obtain⟨_,_,_,_,e⟩:=x;exact Heap.lt_size e
 | tup xs=>obtain⟨_,_,_,p⟩:=x;exact p.lt
 | dK kvs=>obtain⟨_,_,_,_,o,_,_,e,_⟩:=x;exact Heap.lt_size e
 | dT kvs=>obtain⟨_,_,_,_,o,_,_,e,_⟩:=x;exact Heap.lt_size e
 | set S n=>obtain⟨o,_,_,_,e,_⟩:=x;exact Heap.lt_size e
 | ins C dx fs=>obtain⟨_,_,_,e,_⟩:=x;exact Heap.lt_size e
 | own y=>obtain⟨_,e⟩:=x;exact Heap.lt_size e
 | xd fs=>obtain⟨_,⟨_,_,_,e,_⟩,_⟩:=x;exact Heap.lt_size e
 | rng lo hi=>obtain⟨_,_,_,e⟩:=x;exact Heap.lt_size e
 | frz ob u=>obtain⟨e,_⟩:=x;exact Heap.lt_size e
 | tbl ps=>exact Heap.lt_size (show h.get? a=some _ from x)
 | met f y=>exact Heap.lt_size (show h.get? a=some _ from x)
 | ext φ=>obtain⟨_,⟨_,e⟩,_⟩:=x;exact Heap.lt_size e
theorem Paired.mapP {α β:Type} {F G:α->β->Prop}:∀ {l₁:List α} {l₂:List β},Paired F l₁ l₂->(∀ a b,F a b->G a b)->Paired G l₁ l₂
 | _,_,.nil,_=>.nil
 | _,_,.cons r t,f=>.cons (f _ _ r) (Paired.mapP t f)
theorem bf.stay (x:bf P w H h a o) (k:∀ b u,(b=a∨H b=some (.own a))->h.get? b=some u->h'.get? b=some u)
  (ho:∀ b,H b=some (.own a)->H' b=some (.own a)) (ht:∀ b xs,H b=some (.tup xs)->H' b=some (.tup xs)):bf P w H' h' a o:=by
 induction o with
 | lst xs=>obtain⟨z,its,n,r,e⟩:=x;exact⟨z,its,n,r,k _ _ (.inl rfl) e⟩
 | tup xs=>obtain⟨z,its,r,ob,e,c⟩:=x;exact⟨z,its,r,ob,k _ _ (.inl rfl) e,c⟩
 | dK kvs=>obtain⟨z,y,vs,r,ob,es,ep,e,c⟩:=x;exact⟨z,y,vs,r,ob,es,ep,k _ _ (.inl rfl) e,c⟩
 | dT kvs=>
  obtain⟨z,y,xs,r,ob,es,ep,e,c⟩:=x
  exact⟨z,y,xs,Paired.mapP r fun p q z=>⟨z.1,ht _ _ z.2.1,z.2.2⟩,ob,es,ep,k _ _ (.inl rfl) e,c⟩
 | set S n=>obtain⟨ob,es,ep,t,e,c⟩:=x;exact⟨ob,es,ep,t,k _ _ (.inl rfl) e,c⟩
 | ins C dx fs=>
  obtain⟨d,z,ne,e,mA,⟨od,es,ep,e2,c⟩,r⟩:=x
  exact⟨ho _ d,z,ne,k _ _ (.inl rfl) e,mA,⟨od,es,ep,k _ _ (.inr d) e2,c⟩,r⟩
 | own y=>obtain⟨ob,e⟩:=x;exact⟨ob,k _ _ (.inl rfl) e⟩
 | xd fs=>obtain⟨mA,⟨od,es,ep,e,c⟩,r⟩:=x;exact⟨mA,⟨od,es,ep,k _ _ (.inl rfl) e,c⟩,r⟩
 | rng lo hi=>obtain⟨t,u,v,e⟩:=x;exact⟨t,u,v,k _ _ (.inl rfl) e⟩
 | frz ob u ih=>obtain⟨e,q⟩:=x;exact⟨k _ _ (.inl rfl) e,ih q⟩
 | tbl ps=>
  have e:h.get? a=some { cls:=.none,data:=.fields ps }:=x
  show h'.get? a=some { cls:=.none,data:=.fields ps }
  exact k a _ (.inl rfl) e
 | met f y=>
  have e:h.get? a=some (PySem.W.methodObj (.ref f) (.ref y)):=x
  show h'.get? a=some (PySem.W.methodObj (.ref f) (.ref y))
  exact k a _ (.inl rfl) e
 | ext φ=>obtain⟨p,⟨o,e⟩,st⟩:=x;exact⟨st _ _ p fun o q=>k _ _ (.inl rfl) q,⟨o,k _ _ (.inl rfl) e⟩,st⟩
theorem fN.lt (x:fN P w H h) (e:H a=some o):a < h.objs.size:=(x a o e).lt
theorem fN.fresh (x:fN P w H h) (e:h.objs.size≤a):H a=none:=by
 cases q:H a with
 | none=>rfl
 | some u=>exact absurd (Nat.lt_of_lt_of_le (x.lt q) e) (Nat.lt_irrefl _)
theorem fN.kept (x:fN P w H h) (k:∀ b u,h.get? b=some u->h'.get? b=some u):fN P w H h':=fun a o e=>
 (x a o e).stay (fun b u _ q=>k b u q) (fun _ q=>q) fun _ _ q=>q
theorem fN.laid (x:fN P w H h) (k:∀ b u,h.get? b=some u->h'.get? b=some u) (hp:h.objs.size≤a) (new:bf P w (ax H a o) h' a o):fN P w (ax H a o) h':=fun b u e=>by
 have hn:=x.fresh hp
 by_cases hb:b=a
 ·subst hb;rw [ae] at e;cases e;exact new
 ·rw [aj hb] at e
  exact (x b u e).stay (fun c v _ q=>k c v q) (fun c q=>by rw [aj (ay q hn)];exact q) fun c xs q=>by rw [aj (ay q hn)];exact q
end
def Rd (H:Hp) (a:Addr) (u:HO):Prop:=H a=some u∨∃ o,H a=some (.frz o u)
theorem Rd.ok {P:Program} {w:World} {H:Hp} {h:Heap} {a:Addr} {u:HO} (r:Rd H a u) (x:fN P w H h):bf P w H h a u:=by
 rcases r with r | ⟨o,r⟩
 ·exact x a u r
 ·obtain⟨_,q⟩:=x a _ r
  exact q
def Cf:Option HO->Prop
 | some (.lst _)=>True
 | some (.dK _)=>True
 | some (.dT _)=>True
 | some (.set _ _)=>True
 | some (.ins _ _ _)=>True
 | some (.ext _)=>True
 | _=>False
section
variable {P:Program} {w:World} {H:Hp} {h h':Heap} {x e:Addr} {o':HO}
theorem fN.write (ok:fN P w H h) (mu:Cf (H x)) (he:e=x∨H e=some (.own x)) (k:∀ b u,b≠e->h.get? b=some u->h'.get? b=some u) (heo:∃ u,h'.get? e=some u)
  (new:bf P w (ax H x o') h' x o'):fN P w (ax H x o') h':=fun b u q=>by
 have nown:∀ c y,H c=some (.own y)->c≠x:=fun c y r z=>by subst z;rw [r] at mu;exact mu
 have ntup:∀ c xs,H c=some (.tup xs)->c≠x:=fun c xs r z=>by subst z;rw [r] at mu;exact mu
 by_cases hb:b=x
 ·subst hb;rw [ae] at q;cases q;exact new
 ·rw [aj hb] at q
  by_cases hbe:b=e
  ·have q':H b=some (.own x):=by
    rcases he with z | z
    ·exact absurd (hbe.trans z) hb
    ·rw [hbe];exact z
   rw [q] at q';cases q'
   obtain⟨v,hv⟩:=heo
   exact⟨v,by rw [hbe];exact hv⟩
  ·refine (ok b u q).stay (fun c v hc r=>k c v ?_ r) (fun c r=>by rw [aj (nown c b r)];exact r) fun c xs r=>by rw [aj (ntup c xs r)];exact r
   rcases hc with rfl | hc
   ·exact hbe
   ·rintro rfl
    rcases he with z | z
    ·exact nown c b hc z
    ·rw [hc] at z;cases z;exact hb rfl
end
structure Un (fs ex:List Addr) (H H':Hp) (h h':Heap):Prop where
 keep:∀ b o,h.get? b=some o->H b=none->b∉fs->b∉ex->h'.get? b=some o
 slot:∀ b o,h.get? b=some o->H b=none->b∈fs->b∉ex->∃ sl,h'.get? b=some { o with slots:=sl }
 free:∀ b o,h.get? b=some o->H b=none->b∉ex->H' b=none
 there:∀ b o,h.get? b=some o->b∉ex->∃ o',h'.get? b=some o'
 tups:∀ b xs,H b=some (.tup xs)->H' b=some (.tup xs)
 frzs:∀ b o u,H b=some (.frz o u)->H' b=some (.frz o u)
 tbls:∀ b ps,H b=some (.tbl ps)->∃ more,H' b=some (.tbl (ps++more))
section
variable {fs fs' ex ex':List Addr} {H H1 H2:Hp} {h h1 h2 h':Heap} {a x e:Addr} {o:HO}
theorem Un.any (u:Un fs ex H H1 h h1) {b:Addr} {ob:Obj} (q:h.get? b=some ob) (n:H b=none) (hx:b∉ex):∃ sl,h1.get? b=some { ob with slots:=sl }:=by
 by_cases hb:b∈fs
 ·exact u.slot b ob q n hb hx
 ·exact⟨ob.slots,u.keep b ob q n hb hx⟩
theorem Un.kept (k:∀ b u,h.get? b=some u->h'.get? b=some u):Un fs ex H H h h':=
 ⟨fun b ob q _ _ _=>k b ob q,fun b ob q _ _ _=>⟨ob.slots,k b ob q⟩,fun _ _ _ n _=>n,fun b ob q _=>⟨ob,k b ob q⟩,fun _ _ q=>q,fun _ _ _ q=>q,fun _ ps q=>⟨#[],by rw [q];simp⟩⟩
theorem Un.refl:Un fs ex H H h h:=Un.kept fun _ _ q=>q
theorem Un.laid (k:∀ b u,h.get? b=some u->h'.get? b=some u) (hp:h.objs.size≤a) (hn:H a=none):Un fs ex H (ax H a o) h h' where
 keep:=fun b u q _ _ _=>k b u q
 slot:=fun b u q _ _ _=>⟨u.slots,k b u q⟩
 free:=fun b u q n _=>by rw [aj (Nat.ne_of_lt (Nat.lt_of_lt_of_le (Heap.lt_size q) hp))];exact n
 there:=fun b u q _=>⟨u,k b u q⟩
 tups:=fun b xs q=>by rw [aj (ay q hn)];exact q
 frzs:=fun b u xs q=>by rw [aj (ay q hn)];exact q
 tbls:=fun b ps q=>⟨#[],by rw [aj (ay q hn),q];simp⟩
theorem Un.write (mu:Cf (H x)) (he:e=x∨H e=some (.own x)) (k:∀ b u,b≠e->h.get? b=some u->h'.get? b=some u) (heo:∃ u,h'.get? e=some u):Un fs ex H (ax H x o) h h':=by
 have hx:∀ b,H b=none->b≠x:=fun b n z=>by subst z;rw [n] at mu;exact mu
 have hb:∀ b,H b=none->b≠e:=fun b n z=>by
  subst z
  rcases he with r | r
  ·exact hx b n r
  ·rw [n] at r;cases r
 have hm:∀ b u,H b=some u->¬ Cf (some u)->b≠x:=fun b u q nm z=>by subst z;rw [q] at mu;exact nm mu
 refine⟨fun b u q n _ _=>k b u (hb b n) q,fun b u q n _ _=>⟨u.slots,k b u (hb b n) q⟩,fun b u q n _=>by rw [aj (hx b n)];exact n,fun b u q _=>?_,
  fun b xs q=>by rw [aj (hm b _ q fun z=>z)];exact q,fun b u xs q=>by rw [aj (hm b _ q fun z=>z)];exact q,fun b ps q=>⟨#[],by rw [aj (hm b _ q fun z=>z),q];simp⟩⟩
 by_cases hbe:b=e
 ·subst hbe;exact heo
 ·exact⟨u,k b u hbe q⟩
end
def Ck (h:Heap) (H:Hp):List Addr:=(List.range h.objs.size).filter fun a=>(H a).isSome
def kM (h:Heap) (H:Hp):Heap:=PySem.W.hideAll h (Ck h H)
theorem p9 (h:Heap) (H:Hp):(kM h H).objs.size=h.objs.size:=PySem.W.hideAll_size _ _
theorem ud {h:Heap} {H:Hp} {b:Addr} {o:Obj} (e:h.get? b=some o) (n:H b=none):(kM h H).get? b=some o:=
 PySem.W.hideAll_get _ e fun hm=>by
  have q:(H b).isSome=true:=(List.mem_filter.mp hm).2
  rw [n] at q;simp at q
theorem vV {h:Heap} {H:Hp} {b:Addr} {o:Obj} (e:(kM h H).get? b=some o):h.get? b=some o/\H b=none:=by
 have e':h.get? b=some o:=PySem.W.of_hideAll (Ck h H) e
 refine⟨e',?_⟩
 cases q:H b with
 | none=>rfl
 | some x=>
  have hm:b∈Ck h H:=List.mem_filter.mpr ⟨List.mem_range.mpr (Heap.lt_size e'),by simp [q]⟩
  have z:(kM h H).get? b=none:=PySem.W.hideAll_none (Ck h H) hm
  rw [z] at e;cases e
def wH (g h:Heap) (L:Addr):List (Addr×Obj):=(List.range h.objs.size).filterMap fun a=>if a=L∨(g.get? a).isSome=true then none else (h.get? a).map fun o=>(a,o)
def rest (g h:Heap) (L d:Addr):List (Addr×Obj):=(wH g h L).filter fun p=>decide (p.1≠d)
end L2
namespace L2
open PySem PySem.Spec PyProof.Rows
structure Mod (K:PySem.W.Frag) (mg:Str->Option Value) (base:Heap):Prop where
 kin:K.In base
 glob:base.Ns mainGlobals mg
 blt:∃ mb,base.Ns builtinsNs mb/\∀ x:Str,x ≠ "__name__" -> mb x=bootBuiltins x
 nolimit:base.NoLimit
structure Cx where
 prog:Program
 w:World
 K:PySem.W.Frag
 mg:Str->Option Value
 base:Heap
 A:Around
 N:List Str
 s₀:Shared
 H₀:Hp
 env:Env
 outer:List Env
 stack:List Env
 ex:List Addr
 fn:Str->Bool
 calm:Bool
 pn:List (Addr×Obj)
 xe:Value->Shared->Prop
def oS (l:List Env):List Addr:=l.filterMap (·.frame)
abbrev Cx.fs (X:Cx):List Addr:=oS X.outer
def B9 (sc:Scope) (x:Str):Prop:=sc.names.lookup x=some .local∨sc.names.lookup x=some .cell∨sc.names.lookup x=some .free
def uL (sc:Scope) (x:Str):Prop:=sc.names.lookup x=some .local∨sc.names.lookup x=some .cell
def Dt (env:Env) (h:Heap) (m:Str->Option Value) (x:Str) (u:Value):Prop:=
 (env.kindOf x=some .local/\m x=some u)∨((env.kindOf x=some .cell∨env.kindOf x=some .free)/\∃ c,env.cells.lookup x=some c/\h.IsCell c (some u))
structure Cx.Ok (X:Cx):Prop where
 mod:Mod X.K X.mg X.base
 kind:X.env.scope.kind=.function
 glob:X.env.globals=mainGlobals
 blt:X.env.builtins=builtinsNs
 above:X.s₀.heap.objs.size≤X.env.locals
 inj:∀ x y c,X.env.cells.lookup x=some c->X.env.cells.lookup y=some c->x=y
 has:∀ x,(X.env.kindOf x=some .cell∨X.env.kindOf x=some .free)->∃ c,X.env.cells.lookup x=some c
 cab:∀ x c,X.fn x=true->X.env.cells.lookup x=some c->X.s₀.heap.objs.size≤c
 hd:X.calm=true->X.A.handled=none
 frames:X.A.frames=some X.stack
 stk:X.stack=X.outer∨(X.stack=X.env :: X.outer/\X.env.frame=some X.env.locals)
 exf:∀ b∈X.ex,b≠X.env.locals/\∀ x c,X.env.cells.lookup x=some c->c≠b
 bs:∀ b o,X.base.get? b=some o->X.s₀.heap.get? b=some o/\X.H₀ b=none
 bsz:X.base.objs.size≤X.s₀.heap.objs.size
 noex:∀ b o,X.base.get? b=some o->b∉X.ex
 exfs:∀ b∈X.ex,b∉X.fs
 funs:X.s₀.heap.FunFrames X.base X.outer
 frf:∀ b∈X.fs,X.H₀ b=none
structure Inv (X:Cx) (pins:List (Addr×Obj)) (σ:List (Option V)) (H:Hp) (s:Shared):Prop where
 ok:X.Ok
 os:s.os=X.s₀.os
 bare:AllBare s.gens
 base:Un X.fs X.ex X.H₀ H X.s₀.heap s.heap
 loc:∃ m,s.heap.Ns X.env.locals m/\∀ (i:Nat) (x:Str) (v:V),X.N[i]?=some x->σ[i]?=some (some v)->B9 X.env.scope x->∃ u,aO v u/\Dt X.env s.heap m x u
 cell:∀ x c,X.env.cells.lookup x=some c->∃ v,s.heap.IsCell c v
 free:H X.env.locals=none
 freeC:∀ x c,X.env.cells.lookup x=some c->H c=none
 pin:∀ p∈X.pn++pins,s.heap.get? p.1=some p.2/\H p.1=none/\p.1≠X.env.locals/\p.1∉X.fs/\∀ v,p.2.data≠.cell v
 hok:fN X.prog X.w H s.heap
 len:σ.length=X.N.length
section
variable {X:Cx} {pins:List (Addr×Obj)} {σ:List (Option V)} {H H':Hp} {s:Shared} {h':Heap}
theorem Cx.Ok.nofr (ok:X.Ok) {b:Addr} {o:Obj} (e:X.base.get? b=some o):b∉X.fs:=fun hb=>by
 have:=(ok.funs.mem hb).1
 rw [e] at this;cases this
theorem Inv.bs (I:Inv X pins σ H s):∀ b o,X.base.get? b=some o->s.heap.get? b=some o/\H b=none:=fun b o e=>
 ⟨I.base.keep b o (I.ok.bs b o e).1 (I.ok.bs b o e).2 (I.ok.nofr e) (I.ok.noex b o e),I.base.free b o (I.ok.bs b o e).1 (I.ok.bs b o e).2 (I.ok.noex b o e)⟩
theorem Inv.bk (I:Inv X pins σ H s):∀ b o,X.base.get? b=some o->s.heap.get? b=some o:=fun b o e=>(I.bs b o e).1
theorem Inv.mod (I:Inv X pins σ H s):Mod X.K X.mg X.base:=I.ok.mod
theorem Inv.kIn (I:Inv X pins σ H s):X.K.In s.heap:=I.ok.mod.kin.keeps I.bk
theorem Inv.lt (I:Inv X pins σ H s):X.env.locals < s.heap.objs.size:=let ⟨_,hn,_⟩:=I.loc;hn.lt
theorem Inv.sz (I:Inv X pins σ H s):X.s₀.heap.objs.size≤s.heap.objs.size:=Nat.le_trans I.ok.above (Nat.le_of_lt I.lt)
theorem Inv.nofs (I:Inv X pins σ H s) {a:Addr} (h:s.heap.objs.size≤a):a∉X.fs:=fun hb=>by
 obtain⟨_,o,ho,_⟩:=I.ok.funs.mem hb
 exact absurd (Nat.lt_of_lt_of_le (Heap.lt_size ho) (Nat.le_trans I.sz h)) (Nat.lt_irrefl _)
theorem Inv.cne (I:Inv X pins σ H s):∀ x c,X.env.cells.lookup x=some c->c≠X.env.locals:=fun x c e z=>by
 obtain⟨v,o,ho,hd⟩:=I.cell x c e
 obtain⟨m,⟨o',es,ep,ho',hd',_⟩,_⟩:=I.loc
 rw [z,ho'] at ho;cases ho;rw [hd'] at hd;cases hd
theorem Inv.funs (I:Inv X pins σ H s):s.heap.FunFrames X.base X.outer:=by
 have all:∀ (l:List Env),(∀ b∈oS l,b∈X.fs)->X.s₀.heap.FunFrames X.base l->s.heap.FunFrames X.base l:=by
  intro l
  induction l with
  | nil=>intro _ _;trivial
  | cons env r ih=>
   intro hs hl
   obtain⟨hk,⟨L,o,hf,hn,ho,hd⟩,hr⟩:=hl
   have hL:L∈X.fs:=hs L (by unfold oS;rw [List.filterMap_cons,hf];exact List.mem_cons_self)
   obtain⟨sl,e⟩:=I.base.slot L o ho (I.ok.frf L hL) hL fun z=>I.ok.exfs L z hL
   exact⟨hk,⟨L,_,hf,hn,e,hd⟩,ih (fun b hb=>hs b (by unfold oS;rw [List.filterMap_cons,hf];exact List.mem_cons_of_mem _ hb)) hr⟩
 exact all X.outer (fun _ hb=>hb) I.ok.funs
theorem Inv.stack (I:Inv X pins σ H s):s.heap.FunFrames X.base X.stack:=by
 rcases I.ok.stk with e | ⟨e,hf⟩
 ·rw [e];exact I.funs
 ·rw [e]
  obtain⟨m,hn,_⟩:=I.loc
  refine .cons (by rw [I.ok.kind];decide) hf hn ?_ I.funs
  exact Heap.get?_none_of_le (Nat.le_trans I.ok.bsz I.ok.above)
theorem Inv.stkSub (I:Inv X pins σ H s):∀ b∈oS X.stack,b∈X.env.locals :: X.fs:=fun b hb=>by
 rcases I.ok.stk with e | ⟨e,hf⟩
 ·rw [e] at hb;exact List.mem_cons_of_mem _ hb
 ·rw [e] at hb
  unfold oS at hb
  rw [List.filterMap_cons,hf] at hb
  exact hb
theorem Inv.stkFree (I:Inv X pins σ H s):∀ b∈oS X.stack,H b=none:=fun b hb=>by
 rcases List.mem_cons.mp (I.stkSub b hb) with e | hb
 ·rw [e];exact I.free
 ·obtain⟨_,o,ho,_⟩:=I.ok.funs.mem hb
  exact I.base.free b o ho (I.ok.frf b hb) fun z=>I.ok.exfs b z hb
theorem Inv.step {g':Array GenState} {t':Nat} {d':Drawn} {ch:List Addr} (I:Inv X pins σ H s)
  (hch:∀ b∈ch,(b∈X.ex∨X.s₀.heap.get? b=none)/\b≠X.env.locals/\(∀ x c,X.env.cells.lookup x=some c->c≠b)/\∀ p∈X.pn++pins,p.1≠b)
  (keep:∀ b o,b≠X.env.locals->b∉X.fs->b∉ch->s.heap.get? b=some o->H b=none->h'.get? b=some o)
  (slot:∀ b o,b≠X.env.locals->b∈X.fs->b∉ch->s.heap.get? b=some o->H b=none->∃ sl,h'.get? b=some { o with slots:=sl }) (free:∀ b o,b∉ch->s.heap.get? b=some o->H b=none->H' b=none)
  (there:∀ b o,b∉ch->s.heap.get? b=some o->∃ o',h'.get? b=some o')
  (tups:∀ b xs,H b=some (.tup xs)->H' b=some (.tup xs)) (frzs:∀ b o u,H b=some (.frz o u)->H' b=some (.frz o u)) (tbls:∀ b ps,H b=some (.tbl ps)->∃ more,H' b=some (.tbl (ps++more)))
  (ns:∀ m,s.heap.Ns X.env.locals m->h'.Ns X.env.locals m) (hok:fN X.prog X.w H' h') (hg:AllBare g') :
  Inv X pins σ H' { s with heap:=h',gens:=g',drawn:=d',toks:=t' }:=by
 have neL:∀ b o,X.s₀.heap.get? b=some o->b≠X.env.locals:=fun b o e=>Nat.ne_of_lt (Nat.lt_of_lt_of_le (Heap.lt_size e) I.ok.above)
 have neC:∀ b o,X.s₀.heap.get? b=some o->b∉X.ex->b∉ch:=fun b o e hx hb=>by
  rcases (hch b hb).1 with z | z
  ·exact hx z
  ·rw [e] at z;cases z
 have cellK:∀ x c,X.env.cells.lookup x=some c->∀ v,s.heap.IsCell c v->h'.IsCell c v:=fun x c e v ⟨o,ho,hd⟩=>by
  have nch:c∉ch:=fun z=>(hch c z).2.2.1 x c e rfl
  by_cases hc:c∈X.fs
  ·obtain⟨sl,q⟩:=slot c o (I.cne x c e) hc nch ho (I.freeC x c e)
   exact⟨_,q,hd⟩
  ·exact⟨o,keep c o (I.cne x c e) hc nch ho (I.freeC x c e),hd⟩
 refine⟨I.ok,I.os,hg,⟨fun b o e n hb hx=>?_,fun b o e n hb hx=>?_,fun b o e n hx=>?_,fun b o e hx=>?_,fun b xs e=>tups b xs (I.base.tups b xs e),fun b o xs e=>frzs b o xs (I.base.frzs b o xs e),fun b ps e=>?_⟩,?_,fun x c e=>?_,?_,fun x c e=>?_,fun p hp=>?_,hok,I.len⟩
 ·exact keep b o (neL b o e) hb (neC b o e hx) (I.base.keep b o e n hb hx) (I.base.free b o e n hx)
 ·obtain⟨sl,e1⟩:=I.base.slot b o e n hb hx
  obtain⟨sl',e2⟩:=slot b _ (neL b o e) hb (neC b o e hx) e1 (I.base.free b o e n hx)
  exact⟨sl',e2⟩
 ·obtain⟨o',e1⟩:=I.base.there b o e hx
  exact free b o' (neC b o e hx) e1 (I.base.free b o e n hx)
 ·obtain⟨o',e1⟩:=I.base.there b o e hx
  exact there b o' (neC b o e hx) e1
 ·obtain⟨m1,e1⟩:=I.base.tbls b ps e
  obtain⟨m2,e2⟩:=tbls b _ e1
  exact⟨m1++m2,by rw [e2,Array.append_assoc]⟩
 ·obtain⟨m,hn,hl⟩:=I.loc
  refine⟨m,ns m hn,fun i x v e1 e2 e3=>?_⟩
  obtain⟨u,r,l⟩:=hl i x v e1 e2 e3
  refine⟨u,r,?_⟩
  rcases l with l | ⟨k,c,e,z⟩
  ·exact .inl l
  ·exact .inr ⟨k,c,e,cellK x c e _ z⟩
 ·obtain⟨v,z⟩:=I.cell x c e
  exact⟨v,cellK x c e v z⟩
 ·obtain⟨m,⟨o,_,_,ho,_⟩,_⟩:=I.loc
  exact free _ o (fun z=>(hch _ z).2.1 rfl) ho I.free
 ·obtain⟨v,o,ho,hd⟩:=I.cell x c e
  exact free c o (fun z=>(hch c z).2.2.1 x c e rfl) ho (I.freeC x c e)
 ·obtain⟨e,n,ne,nf,d⟩:=I.pin p hp
  have nch:p.1∉ch:=fun z=>(hch p.1 z).2.2.2 p hp rfl
  exact⟨keep p.1 p.2 ne nf nch e n,free p.1 p.2 nch e n,ne,nf,d⟩
theorem Inv.un {t':Nat} (I:Inv X pins σ H s) (u:Un X.fs [] H H' s.heap h') (hok:fN X.prog X.w H' h'):Inv X pins σ H' { s with heap:=h',toks:=t' }:=by
 obtain⟨m,⟨o,es,ep,ho,r⟩,_⟩:=id I.loc
 obtain⟨sl,hL⟩:=u.any ho I.free (by simp)
 exact I.step (g':=s.gens) (d':=s.drawn) (ch:=[]) (fun _ z=>nomatch z) (fun b o _ hb _ e n=>u.keep b o e n hb (by simp)) (fun b o _ hb _ e n=>u.slot b o e n hb (by simp)) (fun b o _ e n=>u.free b o e n (by simp)) (fun b o _ e=>u.there b o e (by simp)) u.tups u.frzs u.tbls (fun m' hm=>by
  obtain⟨o',es',ep',ho',r'⟩:=hm
  rw [ho] at ho';cases ho'
  exact⟨_,es',ep',hL,r'⟩) hok I.bare
theorem Inv.call {g':Array GenState} {t':Nat} {d':Drawn} {ch:List Addr} (I:Inv X pins σ H s) (u:Un (oS X.stack) ch H H' s.heap h') (hok:fN X.prog X.w H' h') (hg:AllBare g')
  (hch:∀ b∈ch,(b∈X.ex∨X.s₀.heap.get? b=none)/\b≠X.env.locals/\(∀ x c,X.env.cells.lookup x=some c->c≠b)/\∀ p∈X.pn++pins,p.1≠b) :
  Inv X pins σ H' { s with heap:=h',gens:=g',drawn:=d',toks:=t' }:=by
 obtain⟨m,⟨o,es,ep,ho,r⟩,_⟩:=id I.loc
 obtain⟨sl,hL⟩:=u.any ho I.free fun z=>(hch _ z).2.1 rfl
 exact I.step (ch:=ch) hch (fun b o hL hb hc e n=>u.keep b o e n (fun z=>(List.mem_cons.mp (I.stkSub b z)).elim hL hb) hc) (fun b o _ _ hc e n=>u.any e n hc) (fun b o hc e n=>u.free b o e n hc) (fun b o hc e=>u.there b o e hc) u.tups u.frzs u.tbls (fun m' hm=>by
  obtain⟨o',es',ep',ho',r'⟩:=hm
  rw [ho] at ho';cases ho'
  exact⟨_,es',ep',hL,r'⟩) hok hg
theorem Inv.turned {t':Nat} {it:Addr} (I:Inv X pins σ H s) (k:∀ b o,b≠it->s.heap.get? b=some o->h'.get? b=some o) (hn:H it=none) (hL:it≠X.env.locals)
  (h1:it∈X.ex∨X.s₀.heap.get? it=none) (h2:∀ x c,X.env.cells.lookup x=some c->c≠it) (h3:∀ p∈X.pn++pins,p.1≠it):Inv X pins σ H { s with heap:=h',toks:=t' }:=by
 have nit:∀ b u,H b=some u->b≠it:=fun b u e z=>by rw [z,hn] at e;cases e
 refine I.step (g':=s.gens) (d':=s.drawn) (ch:=[it]) (fun b hb=>?_) (fun b o _ _ hc e _=>k b o (fun z=>hc (by simp [z])) e) (fun b o _ _ hc e _=>⟨o.slots,k b o (fun z=>hc (by simp [z])) e⟩) (fun _ _ _ _ n=>n)
  (fun b o hc e=>⟨o,k b o (fun z=>hc (by simp [z])) e⟩) (fun _ _ e=>e) (fun _ _ _ e=>e) (fun b ps e=>⟨#[],by rw [e];simp⟩) (fun m hm=>?_) (fun b u e=>?_) I.bare
 ·have e:b=it:=by simpa using hb
  subst e
  exact⟨h1,hL,h2,h3⟩
 ·obtain⟨o,es,ep,ho,r⟩:=hm
  exact⟨o,es,ep,k _ o (Ne.symm hL) ho,r⟩
 ·refine (I.hok b u e).stay (fun c v hc q=>k c v ?_ q) (fun _ q=>q) fun _ _ q=>q
  rcases hc with z | z
  ·rw [z];exact nit b u e
  ·exact nit c _ z
theorem Inv.tok (I:Inv X pins σ H s) (t:Nat):Inv X pins σ H { s with toks:=t }:=I.un (h':=s.heap) (t':=t) Un.refl I.hok
theorem Inv.kept {t':Nat} (I:Inv X pins σ H s) (k:∀ b u,s.heap.get? b=some u->h'.get? b=some u):Inv X pins σ H { s with heap:=h',toks:=t' }:=I.un (Un.kept k) (I.hok.kept k)
theorem Inv.laid {a:Addr} {o:HO} {t':Nat} (I:Inv X pins σ H s) (k:∀ b u,s.heap.get? b=some u->h'.get? b=some u) (hp:s.heap.objs.size≤a) (new:bf X.prog X.w (ax H a o) h' a o) :
  Inv X pins σ (ax H a o) { s with heap:=h',toks:=t' }:=I.un (Un.laid k hp (I.hok.fresh hp)) (I.hok.laid k hp new)
theorem Inv.write {x e:Addr} {o:HO} {t':Nat} (I:Inv X pins σ H s) (mu:Cf (H x)) (he:e=x∨H e=some (.own x)) (k:∀ b u,b≠e->s.heap.get? b=some u->h'.get? b=some u) (heo:∃ u,h'.get? e=some u)
  (new:bf X.prog X.w (ax H x o) h' x o):Inv X pins σ (ax H x o) { s with heap:=h',toks:=t' }:=I.un (Un.write mu he k heo) (I.hok.write mu he k heo new)
theorem Inv.weak {σ':List (Option V)} (I:Inv X pins σ H s) (hl:σ'.length=σ.length) (w:∀ (i:Nat) v,σ'[i]?=some (some v)->σ[i]?=some (some v)):Inv X pins σ' H s:=
 ⟨I.ok,I.os,I.bare,I.base,let ⟨m,hn,hl'⟩:=I.loc;⟨m,hn,fun i x v e1 e2 e3=>hl' i x v e1 (w i v e2) e3⟩,I.cell,I.free,I.freeC,I.pin,I.hok,hl.trans I.len⟩
theorem Inv.pins_of {pins':List (Addr×Obj)} (I:Inv X pins σ H s) (h:∀ p∈pins',s.heap.get? p.1=some p.2/\H p.1=none/\p.1≠X.env.locals/\p.1∉X.fs/\∀ v,p.2.data≠.cell v):Inv X pins' σ H s:=
 ⟨I.ok,I.os,I.bare,I.base,I.loc,I.cell,I.free,I.freeC,fun p hp=>(List.mem_append.mp hp).elim (fun z=>I.pin p (List.mem_append_left _ z)) (h p),I.hok,I.len⟩
theorem lW {N:List Str} (hN:N.Nodup) {i j:Nat} {x:Str} (a:N[i]?=some x) (b:N[j]?=some x):i=j:=by
 obtain⟨h1,e1⟩:=List.getElem?_eq_some_iff.mp a
 obtain⟨h2,e2⟩:=List.getElem?_eq_some_iff.mp b
 exact (List.getElem_inj hN).mp (e1.trans e2.symm)
theorem pF {M:Model} {A:Around} {E:Value->Shared->Prop} {i:Nat} {x:Str} {v:V} {u:Value} {Q:Unit->Shared->Prop} (I:Inv X pins σ H s) (hN:X.N.Nodup) (hi:X.N[i]?=some x) (hx:uL X.env.scope x) (r:aO v u)
  (h:∀ s',Inv X pins (σ.set i (some v)) H s'->(∃ a,Heap.SameBut a s.heap s'.heap/\(a=X.env.locals∨X.env.cells.lookup x=some a))->Q () s') (hf:X.fn x=true∨X.env.scope.names.lookup x=some .local:=by first | exact .inl rfl | exact .inr rfl | assumption):wpAny M A (storeName X.env x u) Q E s:=by
 obtain⟨m,hn,hl⟩:=id I.loc
 have hcls:(X.env.scope.kind == .class || (X.env.scope.kind == .module && X.env.locals != X.env.globals))=false:=by rw [I.ok.kind];rfl
 have hiσ:i < σ.length:=by rw [I.len];exact (List.getElem?_eq_some_iff.mp hi).1
 have cne:=I.cne
 have tracked:∀ {a:Addr} {h':Heap},(∃ o,s.heap.get? a=some o/\H a=none)->Heap.SameBut a s.heap h'->fN X.prog X.w H h':=fun {a h'} ha hs b ob e=>by
  obtain⟨_,_,hfree⟩:=ha
  refine (I.hok b ob e).stay (fun c w' hc q=>(hs.2 c ?_).trans q) (fun _ q=>q) fun _ _ q=>q
  rintro rfl
  rcases hc with rfl | hc
  ·rw [hfree] at e;cases e
  ·rw [hfree] at hc;cases hc
 rcases hx with hk | hk
 ·refine wpAny_storeName_local hk hn (fun h' hn' hs=>?_) hcls
  obtain⟨oL,_,_,hoL,_⟩:=id hn
  refine h _ ⟨I.ok,I.os,I.bare,⟨fun b o e n hb hx=>?_,fun b o e n hb hx=>?_,I.base.free,fun b o e hx=>?_,I.base.tups,I.base.frzs,I.base.tbls⟩,⟨_,hn',fun j y v' e1 e2 e3=>?_⟩,fun y c e=>?_,I.free,I.freeC,fun p hp=>?_,tracked ⟨oL,hoL,I.free⟩ hs,by simpa using I.len⟩ ⟨_,hs,.inl rfl⟩
  ·exact (hs.2 b (Nat.ne_of_lt (Nat.lt_of_lt_of_le (Heap.lt_size e) I.ok.above))).trans (I.base.keep b o e n hb hx)
  ·obtain⟨sl,e1⟩:=I.base.slot b o e n hb hx
   exact⟨sl,(hs.2 b (Nat.ne_of_lt (Nat.lt_of_lt_of_le (Heap.lt_size e) I.ok.above))).trans e1⟩
  ·obtain⟨o',e1⟩:=I.base.there b o e hx
   exact⟨o',(hs.2 b (Nat.ne_of_lt (Nat.lt_of_lt_of_le (Heap.lt_size e) I.ok.above))).trans e1⟩
  ·by_cases hj:j=i
   ·subst hj
    rw [hi] at e1;cases e1
    rw [List.getElem?_set_self hiσ] at e2
    cases e2
    exact⟨u,r,.inl ⟨hk,by simp⟩⟩
   ·rw [List.getElem?_set_ne (Ne.symm hj)] at e2
    obtain⟨u',r',q⟩:=hl j y v' e1 e2 e3
    refine⟨u',r',?_⟩
    rcases q with ⟨k,e⟩ | ⟨k,c,e,z⟩
    ·refine .inl ⟨k,?_⟩
     have:y≠x:=fun e=>hj (lW hN e1 (e ▸ hi))
     simp [this,e]
    ·exact .inr ⟨k,c,e,z.sameBut hs (cne y c e)⟩
  ·obtain⟨w',z⟩:=I.cell y c e
   exact⟨w',z.sameBut hs (cne y c e)⟩
  ·obtain⟨e,n,ne,nf,d⟩:=I.pin p hp
   exact⟨(hs.2 p.1 ne).trans e,n,ne,nf,d⟩
 ·have hfn:X.fn x=true:=by
   rcases hf with z | z
   ·exact z
   ·rw [z] at hk;cases hk
  obtain⟨c,hc⟩:=I.ok.has x (.inl hk)
  obtain⟨w',z⟩:=I.cell x c hc
  refine wpAny_storeName_cell I.ok.kind hk hc z (fun h' hc' hs=>?_)
  obtain⟨oc,hoc,hocd⟩:=id z
  refine h { s with heap:=h' } ⟨I.ok,I.os,I.bare,⟨fun b o e n hb hx=>?_,fun b o e n hb hx=>?_,I.base.free,fun b o e hx=>?_,I.base.tups,I.base.frzs,I.base.tbls⟩,⟨m,hn.sameBut hs (Ne.symm (cne x c hc)),fun j y v' e1 e2 e3=>?_⟩,fun y c' e=>?_,I.free,I.freeC,fun p hp=>?_,tracked ⟨oc,hoc,I.freeC x c hc⟩ hs,by simpa using I.len⟩ ⟨c,hs,.inr hc⟩
  ·exact (hs.2 b (Nat.ne_of_lt (Nat.lt_of_lt_of_le (Heap.lt_size e) (I.ok.cab x c hfn hc)))).trans (I.base.keep b o e n hb hx)
  ·obtain⟨sl,e1⟩:=I.base.slot b o e n hb hx
   exact⟨sl,(hs.2 b (Nat.ne_of_lt (Nat.lt_of_lt_of_le (Heap.lt_size e) (I.ok.cab x c hfn hc)))).trans e1⟩
  ·obtain⟨o',e1⟩:=I.base.there b o e hx
   exact⟨o',(hs.2 b (Nat.ne_of_lt (Nat.lt_of_lt_of_le (Heap.lt_size e) (I.ok.cab x c hfn hc)))).trans e1⟩
  ·by_cases hj:j=i
   ·subst hj
    rw [hi] at e1;cases e1
    rw [List.getElem?_set_self hiσ] at e2
    cases e2
    exact⟨u,r,.inr ⟨.inl hk,c,hc,hc'⟩⟩
   ·rw [List.getElem?_set_ne (Ne.symm hj)] at e2
    obtain⟨u',r',q⟩:=hl j y v' e1 e2 e3
    refine⟨u',r',?_⟩
    rcases q with q | ⟨k,c',e,z'⟩
    ·exact .inl q
    ·refine .inr ⟨k,c',e,z'.sameBut hs ?_⟩
     rintro rfl
     exact hj (lW hN e1 (I.ok.inj _ _ _ e hc ▸ hi))
  ·by_cases hcc:c'=c
   ·subst hcc;exact⟨_,hc'⟩
   ·obtain⟨w2,z2⟩:=I.cell y c' e
    exact⟨w2,z2.sameBut hs hcc⟩
  ·obtain⟨e,n,ne,nf,d⟩:=I.pin p hp
   refine⟨(hs.2 p.1 ?_).trans e,n,ne,nf,d⟩
   intro q
   rw [q,hoc] at e
   have q':oc=p.2:=Option.some.inj e
   exact d w' (by rw [← q'];exact hocd)
theorem dN {M:Model} {A:Around} {E:Value->Shared->Prop} {i:Nat} {x:Str} {v:V} {u:Value} {Q:Unit->Shared->Prop} (I:Inv X pins σ H s) (hN:X.N.Nodup) (hi:X.N[i]?=some x) (hx:uL X.env.scope x) (r:aO v u)
  (h:∀ s',Inv X pins (σ.set i (some v)) H s'->Q () s') (hf:X.fn x=true∨X.env.scope.names.lookup x=some .local:=by first | exact .inl rfl | exact .inr rfl | assumption):wpAny M A (storeName X.env x u) Q E s:=
 pF I hN hi hx r (fun s' I' _=>h s' I') hf
theorem Inv.call' {s':Shared} {ch:List Addr} (I:Inv X pins σ H s) (ho:s'.os=s.os) (u:Un (oS X.stack) ch H H' s.heap s'.heap) (hok:fN X.prog X.w H' s'.heap) (hg:AllBare s'.gens)
  (hch:∀ b∈ch,(b∈X.ex∨X.s₀.heap.get? b=none)/\b≠X.env.locals/\(∀ x c,X.env.cells.lookup x=some c->c≠b)/\∀ p∈X.pn++pins,p.1≠b):Inv X pins σ H' s':=by
 obtain⟨h',g',d',t',o'⟩:=s'
 have e:o'=s.os:=ho
 subst e
 exact I.call (g':=g') (t':=t') (d':=d') u hok hg hch
end
abbrev XK:=Value->Option Addr->Hp->Prop
abbrev St:=List (Option V)
abbrev VK:=V->Hp->Prop
abbrev TE:=St->Hp->VK->Prop
abbrev TT:=St->Hp->(Bool->Hp->Prop)->Prop
abbrev TA:=St->Hp->(List V->Hp->Prop)->Prop
structure im where
 nx:St->Hp->Prop
 rt:VK
 bk:St->Hp->Prop:=fun _ _=>False
 ct:St->Hp->Prop:=fun _ _=>False
abbrev TS:=im->St->Hp->Prop
def EP (X:Cx) (pins:List (Addr×Obj)) (σ:St) (Q:VK) (u:Value) (s':Shared):Prop:=∃ v H',Inv X pins σ H' s'/\aO v u/\Q v H'
def TP (X:Cx) (pins:List (Addr×Obj)) (σ:St) (Q:Bool->Hp->Prop) (b:Bool) (s':Shared):Prop:=∃ H',Inv X pins σ H' s'/\Q b H'
def AP (X:Cx) (pins:List (Addr×Obj)) (σ:St) (Q:List V->Hp->Prop) (us:List Value) (s':Shared):Prop:=∃ vs H',Inv X pins σ H' s'/\aR vs us/\Q vs H'
def SP (X:Cx) (pins:List (Addr×Obj)) (D:im) (f:Flow) (s':Shared):Prop:=
 match f with
 | .next=>∃ σ' H',Inv X pins σ' H' s'/\D.nx σ' H'
 | .brk=>∃ σ' H',Inv X pins σ' H' s'/\D.bk σ' H'
 | .cont=>∃ σ' H',Inv X pins σ' H' s'/\D.ct σ' H'
 | .ret u=>∃ v σ' H',Inv X pins σ' H' s'/\aO v u/\D.rt v H'
def PE (X:Cx) (e:Expr) (t:TE):Prop:=
 ∀ (pins:List (Addr×Obj)) (s:Shared) (σ:St) (H:Hp) (Q:VK),Inv X pins σ H s->t σ H Q->wpAny (model X.prog X.w) X.A (eval e X.env) (EP X pins σ Q) X.xe s
def PT (X:Cx) (e:Expr) (t:TT):Prop:=
 ∀ (pins:List (Addr×Obj)) (s:Shared) (σ:St) (H:Hp) (Q:Bool->Hp->Prop),Inv X pins σ H s->t σ H Q->wpAny (model X.prog X.w) X.A (isTrue e X.env (eval e X.env)) (TP X pins σ Q) X.xe s
def PW (X:Cx) (e:Expr) (t:TT):Prop:=
 ∀ (whole:Sem Value) (pins:List (Addr×Obj)) (s:Shared) (σ:St) (H:Hp) (Q:Bool->Hp->Prop),Inv X pins σ H s->t σ H Q->wpAny (model X.prog X.w) X.A (isTrue e X.env whole) (TP X pins σ Q) X.xe s
theorem PW.pt {X:Cx} {e:Expr} {t:TT} (h:PW X e t):PT X e t:=h _
def PA (X:Cx) (es:List Expr) (t:TA):Prop:=
 ∀ (pos:Pos) (pins:List (Addr×Obj)) (s:Shared) (σ:St) (H:Hp) (Q:List V->Hp->Prop),Inv X pins σ H s->t σ H Q->wpAny (model X.prog X.w) X.A (spliced (backTo pos (starEach es X.env))) (AP X pins σ Q) X.xe s
def PS (X:Cx) (st:Stmt) (t:TS):Prop:=
 ∀ (pins:List (Addr×Obj)) (s:Shared) (σ:St) (H:Hp) (D:im),Inv X pins σ H s->t D σ H->wpAny (model X.prog X.w) X.A (exec st X.env) (SP X pins D) X.xe s
def oa (X:Cx) (st:List Stmt) (t:TS):Prop:=
 ∀ (pins:List (Addr×Obj)) (s:Shared) (σ:St) (H:Hp) (D:im),Inv X pins σ H s->t D σ H->wpAny (model X.prog X.w) X.A (execs st X.env) (SP X pins D) X.xe s
theorem bc {α:Type} {t:Sem α} {Q Q':α->Shared->Prop} {M:Model} {A:Around} {E:Value->Shared->Prop} {s:Shared} (h:wpAny M A t Q E s) (hQ:∀ a s,Q a s->Q' a s):wpAny M A t Q' E s:=wpAny_mono h hQ fun _ _ x=>x
end L2
namespace L2
open PySem PySem.Spec PyProof.Rows
section
variable {X:Cx}
def xL (i:Nat):TE:=fun σ H Q=>∃ v,σ[i]?=some (some v)/\Q v H
def tC (v:V):TE:=fun _ H Q=>Q v H
theorem yS {i:Nat} {x:Str} {pos:Pos} (hN:X.N[i]?=some x) (hv:B9 X.env.scope x) (hd:(x == ("__debug__" : Str))=false:=by decide) (hcd:(x == ("__classdict__" : Str))=false:=by decide):PE X (.Name x pos) (xL i):=by
 intro pins s σ H Q I h
 obtain⟨v,e,h⟩:=h
 obtain⟨m,hn,hl⟩:=I.loc
 obtain⟨u,r,l⟩:=hl i x v hN e hv
 have fin:EP X pins σ Q u s:=⟨v,H,I,r,h⟩
 rcases l with ⟨hk,hm⟩ | ⟨hk,c,hc,hcell⟩
 ·exact wpAny_Name (wpAny_loadName_local I.ok.kind hk hn hm fin) hd
 ·rcases hk with hk | hk
  ·exact wpAny_Name (wpAny_loadName_cell I.ok.kind hk hc hcell fin) hd
  ·exact wpAny_Name (wpAny_loadName_free I.ok.kind hk hc hcell fin hcd) hd
theorem yW {i j pos}:PE X (.Constant (.int i) j pos) (tC (.int i)):=fun _ _ _ H _ I h=>wpAny_Constant_int ⟨.int i,H,I.tok _,⟨_,rfl⟩,h⟩
theorem By {b j pos}:PE X (.Constant (.bool b) j pos) (tC (.bl b)):=fun _ _ _ H _ I h=>Constant_bool ⟨.bl b,H,I,rfl,h⟩
theorem yU {j pos}:PE X (.Constant .none j pos) (tC .non):=fun _ _ _ H _ I h=>Constant_none ⟨.non,H,I,rfl,h⟩
def Gl (X:Cx) (x:Str):Prop:=X.env.kindOf x=some .globalImplicit
theorem kJ {E:Value->Shared->Prop} {pins:List (Addr×Obj)} {s:Shared} {σ:St} {H:Hp} {x:Str} {u:Value} {pos:Pos} {Q:Value->Shared->Prop} (I:Inv X pins σ H s) (hg:Gl X x) (hm:X.mg x=some u) (h:Q u s)
  (hd:(x == ("__debug__" : Str))=false:=by decide):wpAny (model X.prog X.w) X.A (eval (.Name x pos) X.env) Q E s:=
 Calls.Name_function_global I.ok.kind hg (Calls.loadGlobal_global (by rw [I.ok.glob];exact I.mod.glob.keeps I.bk) hm h) hd
theorem gL {E:Value->Shared->Prop} {pins:List (Addr×Obj)} {s:Shared} {σ:St} {H:Hp} {x:Str} {u:Value} {pos:Pos} {Q:Value->Shared->Prop} (I:Inv X pins σ H s) (hg:Gl X x) (hm:X.mg x=none) (hv:bootBuiltins x=some u) (h:Q u s)
  (hn:x ≠ "__name__" := by decide) (hd:(x == ("__debug__" : Str))=false:=by decide):wpAny (model X.prog X.w) X.A (eval (.Name x pos) X.env) Q E s:=by
 obtain⟨mb,h1,h2⟩:=I.mod.blt
 exact Calls.Name_function_global I.ok.kind hg (Calls.loadGlobal_builtin (by rw [I.ok.glob];exact I.mod.glob.keeps I.bk) hm (by rw [I.ok.blt];exact h1.keeps I.bk) ((h2 x hn).trans hv) h) hd
theorem vN {x:Str} {v:V} {u:Value} {pos:Pos} (hg:Gl X x) (hm:X.mg x=some u) (r:aO v u) (hd:(x == ("__debug__" : Str))=false:=by decide):PE X (.Name x pos) (tC v):=
 fun _ _ _ H _ I h=>kJ I hg hm ⟨v,H,I,r,h⟩ hd
def Co (ta tb:TE) (k:Int->Int->Hp->Prop):St->Hp->Prop:=fun σ H=>ta σ H fun x H1=>tb σ H1 fun y H2=>∃ i j,x=.int i/\y=.int j/\k i j H2
def E1 (ta tb:TE):TE:=fun σ H Q=>Co ta tb (fun i j H2=>Q (.int (i+j)) H2) σ H
def ER (ta tb:TE):TE:=fun σ H Q=>Co ta tb (fun i j H2=>Q (.int (i - j)) H2) σ H
def EV (ta tb:TE):TE:=fun σ H Q=>Co ta tb (fun i j H2=>(-(2 ^ 64) < i/\i < 2 ^ 64)/\Q (.int (i * j)) H2) σ H
variable {a b:Expr} {ta tb:TE} {pos:Pos}
def PC (X:Cx) (op:CmpOp) (a b:Expr) (t:TE):Prop:=
 ∀ (pins:List (Addr×Obj)) (s:Shared) (σ:St) (H:Hp) (Q:VK),Inv X pins σ H s->t σ H Q→
  wpAny (model X.prog X.w) X.A (eval a X.env) (fun v s₁=>wpAny (model X.prog X.w) X.A (eval b X.env) (fun u s₂=>wpAny (model X.prog X.w) X.A (compareOp op v u) (EP X pins σ Q) X.xe s₂) X.xe s₁) X.xe s
def pE (p:Int->Int->Bool) (ta tb:TE):TE:=fun σ H Q=>Co ta tb (fun i j H2=>Q (.bl (p i j)) H2) σ H
abbrev FI:TE->TE->TE:=pE fun i j=>decide (i < j)
abbrev FJ:TE->TE->TE:=pE fun i j=>decide (i≤j)
abbrev FL:TE->TE->TE:=pE fun i j=>decide (j < i)
abbrev FM:TE->TE->TE:=pE fun i j=>decide (j≤i)
abbrev EX:TE->TE->TE:=pE fun i j=>decide (i=j)
abbrev EU:TE->TE->TE:=pE fun i j=>!decide (i=j)
def EW (ta:TE):TE:=fun σ H Q=>ta σ H fun x H1=>Q (.bl (decide (x=.non))) H1
def DO (ta:TE):TE:=fun σ H Q=>ta σ H fun x H1=>Q (.bl (!decide (x=.non))) H1
def tB (t:TE):TT:=fun σ H Q=>t σ H fun x H1=>∃ c,x=.bl c/\Q c H1
theorem sE {op:CmpOp} {t:TE} (h:PC X op a b t) (h1:behindInMarks op b=false:=by first | exact nobehind _ (by decide) (by decide) | rfl):PT X (.Compare a [op] [b] pos) (tB t):=by
 intro pins s σ H Q I hw
 refine wpAny_isTrue_Compare1 (bc (h pins s σ H _ I hw) fun v s1 h1=>bc h1 fun u s2 h2=>bc h2 fun c s3 ⟨x,H1,I1,r1,q1⟩=>?_) h1
 obtain⟨d,rfl,q⟩:=q1
 cases r1
 exact wpAny_truthy_bool ⟨H1,I1,q⟩
theorem yG {e:Expr} {t:TE} (h:PE X e t) (he:∀ whole,isTrue e X.env whole=(do let v ← whole;standAt e.pos;holding [v] (truthy v)):=by intro _;rfl):PT X e (tB t):=by
 intro pins s σ H Q I hw
 refine isTrue_plain (bc (h pins s σ H _ I hw) fun v s1 ⟨x,H1,I1,r1,q1⟩=>?_) (he _)
 obtain⟨d,rfl,q⟩:=q1
 cases r1
 exact wpAny_truthy_bool ⟨H1,I1,q⟩
variable {tA tB':TT} {rest:List Expr}
def A1 (t u:TT):TT:=fun σ H Q=>t σ H fun c H1=>if c=true then u σ H1 Q else Q false H1
def DM (t u:TT):TT:=fun σ H Q=>t σ H fun c H1=>if c=true then Q true H1 else u σ H1 Q
def AV (t:TT):TT:=fun σ H Q=>t σ H fun c H1=>Q (!c) H1
theorem vh (ha:PT X a tA):PW X (.BoolOp .And [a] pos) tA:=by
 intro wh pins s σ H Q I h
 refine isTrue_and (bc (ha pins s σ H Q I h) fun c s1 e=>?_)
 cases c with
 | true=>exact isTrue_and_nil e
 | false=>exact e
theorem yE (ha:PT X a tA):PW X (.BoolOp .Or [a] pos) tA:=by
 intro wh pins s σ H Q I h
 refine isTrue_or (bc (ha pins s σ H Q I h) fun c s1 e=>?_)
 cases c with
 | false=>exact isTrue_or_nil e
 | true=>exact e
theorem yF (ha:PT X a tA) (hb:PW X (.BoolOp .And (b :: rest) pos) tB'):PW X (.BoolOp .And (a :: b :: rest) pos) (A1 tA tB'):=by
 intro wh pins s σ H Q I h
 refine isTrue_and (bc (ha pins s σ H _ I h) fun c s1 ⟨H1,I1,q1⟩=>?_)
 cases c with
 | true=>exact hb wh pins s1 σ H1 Q I1 q1
 | false=>exact⟨H1,I1,q1⟩
theorem Bm (ha:PT X a tA) (hb:PW X (.BoolOp .Or (b :: rest) pos) tB'):PW X (.BoolOp .Or (a :: b :: rest) pos) (DM tA tB'):=by
 intro wh pins s σ H Q I h
 refine isTrue_or (bc (ha pins s σ H _ I h) fun c s1 ⟨H1,I1,q1⟩=>?_)
 cases c with
 | true=>exact⟨H1,I1,q1⟩
 | false=>exact hb wh pins s1 σ H1 Q I1 q1
theorem yH (ha:PT X a tA):PT X (.UnaryOp .Not a pos) (AV tA):=by
 intro pins s σ H Q I h
 exact isTrue_not (ha pins s σ H (fun c H1=>Q (!c) H1) I h)
def DU (ta tb:TE):TE:=fun σ H Q=>ta σ H fun x H1=>∃ c,x=.bl c/\if c=true then tb σ H1 Q else Q (.bl false) H1
def ET (ta tb:TE):TE:=fun σ H Q=>ta σ H fun x H1=>∃ c,x=.bl c/\if c=true then Q (.bl true) H1 else tb σ H1 Q
def DN (ta:TE):TE:=fun σ H Q=>ta σ H fun x H1=>∃ c,x=.bl c/\Q (.bl (!c)) H1
def FK (t:TT) (ta tb:TE):TE:=fun σ H Q=>t σ H fun c H1=>if c=true then ta σ H1 Q else tb σ H1 Q
end
end L2
namespace L2
open PySem PySem.Spec PyProof.Rows
def aF (K:PySem.W.Frag) (H:Hp) (a:Addr) (xs:List V):Prop:=
 Rd H a (.lst xs)∨
  ∃ (o:Obj) (its:Array Value) (n:Nat),K.lookup a=some o/\o.cls=.type "list" /\ o.dict=none/\o.data=.seq its n/\its.size≤sizeLine/\aR xs its.toList
def bS (K:PySem.W.Frag) (H:Hp) (a:Addr) (xs:List V):Prop:=
 Rd H a (.tup xs)∨
  ∃ (o:Obj) (its:Array Value) (n:Nat),K.lookup a=some o/\o.cls=.type "tuple" /\ o.data=.seq its n/\its.size≤sizeLine/\aR xs its.toList
def Dq:Value->Option V
 | .none=>some .non
 | .bool b=>some (.bl b)
 | .int i _=>some (.int i)
 | .str x _=>some (.str x)
 | .bytes b _=>some (.byt b)
 | .float b _=>some (.flt b)
 | .ref a=>some (.ref a)
 | .type n=>some (.ty n)
 | _=>none
theorem aO.abs {x:V} {u:Value} (r:aO x u):Dq u=some x:=by
 cases x with
 | non=>cases r;rfl
 | bl _=>cases r;rfl
 | int _=>obtain⟨t,rfl⟩:=r;rfl
 | str _=>obtain⟨t,rfl⟩:=r;rfl
 | byt _=>obtain⟨t,rfl⟩:=r;rfl
 | flt _=>obtain⟨t,rfl⟩:=r;rfl
 | ref _=>cases r;rfl
 | ty _=>cases r;rfl
theorem aO.inj {x y:V} {u:Value} (r:aO x u) (q:aO y u):x=y:=Option.some.inj (r.abs.symm.trans q.abs)
theorem aR.inj:∀ {xs ys:List V} {us:List Value},aR xs us->aR ys us->xs=ys
 | _,_,_,.nil,.nil=>rfl
 | _,_,_,.cons r t,.cons r' t'=>by rw [r.inj r',aR.inj t t']
section
variable {X:Cx} {pins:List (Addr×Obj)} {σ:St} {H:Hp} {s:Shared} {a:Addr} {xs ys:List V}
theorem aF.of {K:PySem.W.Frag} (h:H a=some (.lst xs)):aF K H a xs:=.inl (.inl h)
theorem bS.of {K:PySem.W.Frag} (h:H a=some (.tup xs)):bS K H a xs:=.inl (.inl h)
theorem Inv.list (I:Inv X pins σ H s) (h:aF X.K H a xs):∃ its:List Value,aR xs its/\PlainL s.heap a its.toArray/\xs.length≤sizeLine:=by
 rcases h with h | ⟨o,its,n,hk,hc,hd,hs,hz,r⟩
 ·obtain⟨z,its,n,r,e⟩:=h.ok I.hok
  exact⟨its,r,⟨_,n,e,rfl,rfl,rfl⟩,z⟩
 ·refine⟨its.toList,r,⟨o,n,I.kIn a o hk,hc,hd,by simpa using hs⟩,?_⟩
  have e:=r.length
  simp only [Array.length_toList] at e
  omega
theorem Inv.tuple (I:Inv X pins σ H s) (h:bS X.K H a xs):∃ its:List Value,aR xs its/\IsTup s.heap a its.toArray/\xs.length≤sizeLine:=by
 rcases h with h | ⟨o,its,n,hk,hc,hs,hz,r⟩
 ·obtain⟨z,its,r,p⟩:=h.ok I.hok
  exact⟨its,r,p,z⟩
 ·refine⟨its.toList,r,⟨o,I.kIn a o hk,hc,n,by simpa using hs⟩,?_⟩
  have e:=r.length
  simp only [Array.length_toList] at e
  omega
theorem Inv.list_inj (I:Inv X pins σ H s) (h:aF X.K H a xs) (h':aF X.K H a ys):xs=ys:=by
 obtain⟨its,r,⟨o,n,e,_,_,d⟩,_⟩:=I.list h
 obtain⟨its',r',⟨o',n',e',_,_,d'⟩,_⟩:=I.list h'
 rw [e] at e';cases e'
 rw [d] at d'
 injection d' with d1 _
 have:its=its':=by simpa using congrArg Array.toList d1
 subst this
 exact r.inj r'
theorem Inv.tuple_inj (I:Inv X pins σ H s) (h:bS X.K H a xs) (h':bS X.K H a ys):xs=ys:=by
 obtain⟨its,r,⟨o,e,_,n,d⟩,_⟩:=I.tuple h
 obtain⟨its',r',⟨o',e',_,n',d'⟩,_⟩:=I.tuple h'
 rw [e] at e';cases e'
 rw [d] at d'
 injection d' with d1 _
 have:its=its':=by simpa using congrArg Array.toList d1
 subst this
 exact r.inj r'
end
abbrev Cx.wish (X:Cx) (E:Value->Shared->Prop):Cx:={ X with xe:=E }
abbrev Cx.nox (X:Cx):Cx:=X.wish fun _ _=>False
theorem Cx.Ok.wish {X:Cx} (ok:X.Ok) (E:Value->Shared->Prop):(X.wish E).Ok:=
 ⟨ok.mod,ok.kind,ok.glob,ok.blt,ok.above,ok.inj,ok.has,ok.cab,ok.hd,ok.frames,ok.stk,ok.exf,ok.bs,ok.bsz,ok.noex,ok.exfs,ok.funs,ok.frf⟩
theorem Cx.Ok.unwish {X:Cx} {E:Value->Shared->Prop} (ok:(X.wish E).Ok):X.Ok:=
 ⟨ok.mod,ok.kind,ok.glob,ok.blt,ok.above,ok.inj,ok.has,ok.cab,ok.hd,ok.frames,ok.stk,ok.exf,ok.bs,ok.bsz,ok.noex,ok.exfs,ok.funs,ok.frf⟩
section
variable {X:Cx} {pins:List (Addr×Obj)} {σ:St} {H:Hp} {s:Shared} {E:Value->Shared->Prop}
theorem Inv.wish (I:Inv X pins σ H s) (E:Value->Shared->Prop):Inv (X.wish E) pins σ H s:=⟨I.ok.wish E,I.os,I.bare,I.base,I.loc,I.cell,I.free,I.freeC,I.pin,I.hok,I.len⟩
theorem Inv.unwish (I:Inv (X.wish E) pins σ H s):Inv X pins σ H s:=⟨I.ok.unwish,I.os,I.bare,I.base,I.loc,I.cell,I.free,I.freeC,I.pin,I.hok,I.len⟩
theorem SP.unwish {D:im} {f:Flow} {s':Shared} (h:SP (X.wish E) pins D f s'):SP X pins D f s':=by
 cases f with
 | next=>obtain⟨σ',H',I,q⟩:=h;exact⟨σ',H',I.unwish,q⟩
 | brk=>obtain⟨σ',H',I,q⟩:=h;exact⟨σ',H',I.unwish,q⟩
 | cont=>obtain⟨σ',H',I,q⟩:=h;exact⟨σ',H',I.unwish,q⟩
 | ret u=>obtain⟨v,σ',H',I,r,q⟩:=h;exact⟨v,σ',H',I.unwish,r,q⟩
theorem oa.nox {st:List Stmt} {t:TS} (h:oa X.nox st t):oa X st t:=fun pins s σ H D I hw=>
 wpAny_mono (h pins s σ H D (I.wish _) hw) (fun _ _ q=>q.unwish) fun _ _ z=>False.elim z
end
section
variable {X:Cx} {st:Stmt} {rest:List Stmt} {t u:TS} {e:Expr} {te:TE} {pos:Pos}
def wQ:TS:=fun D σ H=>D.nx σ H
def xM (t u:TS):TS:=fun D σ H=>t { D with nx:=u D } σ H
theorem vq:oa X [] wQ:=fun _ _ σ H _ I h=>wpAny_execs_nil ⟨σ,H,I,h⟩
theorem sN (h1:PS X st t) (h2:oa X rest u):oa X (st :: rest) (xM t u):=by
 intro pins s σ H D I h
 refine wpAny_execs_cons (bc (h1 pins s σ H { D with nx:=u D } I h) fun f s1 q=>?_)
 cases f with
 | next=>
  obtain⟨σ',H',I',q⟩:=q
  exact h2 pins s1 σ' H' D I' q
 | ret v=>exact q
 | brk=>exact q
 | cont=>exact q
theorem vo (h1:PS X st t):oa X [st] t:=by
 intro pins s σ H D I h
 refine wpAny_execs_cons (bc (h1 pins s σ H D I h) fun f s1 q=>?_)
 cases f with
 | next=>exact wpAny_execs_nil q
 | ret v=>exact q
 | brk=>exact q
 | cont=>exact q
def CW:TS:=fun D σ H=>D.bk σ H
def DR:TS:=fun D σ H=>D.ct σ H
theorem Inv.quiet {pins:List (Addr×Obj)} {σ:St} {H:Hp} {s:Shared} (I:Inv X pins σ H s):interactive X.env=false:=by simp [interactive,I.ok.kind]
def wT (te:TE):TS:=fun D σ H=>te σ H fun _ H1=>D.nx σ H1
theorem vx (he:PE X e te) (hs:swapsWith e none pos.line X.env=pure false:=by rfl):PS X (.Expr e pos) (wT te):=by
 intro pins s σ H D I h
 exact wpAny_Expr_any (bc (he pins s σ H _ I h) fun v s1 ⟨x,H1,I1,r1,q1⟩=>⟨σ,H1,I1,q1⟩) I.quiet hs
def AT (te:TE):TS:=fun D σ H=>te σ H D.rt
theorem yJ (he:PE X e te):PS X (.Return (some e) pos) (AT te):=by
 intro pins s σ H D I h
 exact wpAny_Return_some (bc (he pins s σ H _ I h) fun v s1 ⟨x,H1,I1,r1,q1⟩=>⟨x,σ,H1,I1,r1,q1⟩)
def DL:TS:=fun D _ H=>D.rt .non H
def AX (c:TT) (t u:TS):TS:=fun D σ H=>c σ H fun b H1=>if b=true then t D σ H1 else u D σ H1
theorem Bp {c:Expr} {a b:List Stmt} {tc:TT} (hc:PT X c tc) (ha:oa X a t) (hb:oa X b u):PS X (.If c a b pos) (AX tc t u):=by
 intro pins s σ H D I h
 refine wpAny_If (bc (hc pins s σ H _ I h) fun d s1 ⟨H1,I1,q1⟩=>?_)
 cases d with
 | true=>exact ha pins s1 σ H1 D I1 q1
 | false=>exact hb pins s1 σ H1 D I1 q1
def qE:TS:=fun _ _ _=>False
theorem sP:PS X st qE:=fun _ _ _ _ _ _ h=>h.elim
end
abbrev TG:=V->St->Hp->(St->Hp->Prop)->Prop
abbrev qo:=List V->St->Hp->(St->Hp->Prop)->Prop
def PG (X:Cx) (target:Expr) (t:TG):Prop:=
 ∀ (pins:List (Addr×Obj)) (s:Shared) (σ:St) (H:Hp) (v:V) (u:Value) (Q:St->Hp->Prop),Inv X pins σ H s->aO v u->t v σ H Q→
  wpAny (model X.prog X.w) X.A (assign target X.env u) (fun _ s'=>∃ σ' H',Inv X pins σ' H' s'/\Q σ' H') X.xe s
def AD (X:Cx) (ts:List Expr) (t:qo):Prop:=
 ∀ (pins:List (Addr×Obj)) (s:Shared) (σ:St) (H:Hp) (vs:List V) (us:List Value) (Q:St->Hp->Prop),Inv X pins σ H s->aR vs us->t vs σ H Q→
  wpAny (model X.prog X.w) X.A (assignInOrder ((assignEach ts X.env).map (·.2)) us) (fun _ s'=>∃ σ' H',Inv X pins σ' H' s'/\Q σ' H') X.xe s
abbrev nY:=V->V->V->Hp->(Hp->Prop)->Prop
def uK (X:Cx) (t:nY):Prop:=
 ∀ (pins:List (Addr×Obj)) (s:Shared) (σ:St) (H:Hp) (o i v:V) (ov iv u:Value) (Q:Hp->Prop),Inv X pins σ H s->aO o ov->aO i iv->aO v u->t o i v H Q→
  wpAny (model X.prog X.w) X.A (setItem ov iv u) (fun _ s'=>∃ H',Inv X pins σ H' s'/\Q H') X.xe s
abbrev xx:=V->V->Hp->VK->Prop
def AC (X:Cx) (op:Operator) (t:xx):Prop:=
 ∀ (pins:List (Addr×Obj)) (s:Shared) (σ:St) (H:Hp) (x y:V) (v u:Value) (Q:VK),Inv X pins σ H s->aO x v->aO y u->t x y H Q→
  wpAny (model X.prog X.w) X.A (inplaceOp op v u) (EP X pins σ Q) X.xe s
section
variable {X:Cx} {pos:Pos}
def i9 (i:Nat):TG:=fun v σ H Q=>Q (σ.set i (some v)) H
theorem vH {i:Nat} {x:Str} (hN:X.N.Nodup) (hi:X.N[i]?=some x) (hx:uL X.env.scope x) (hf:X.fn x=true∨X.env.scope.names.lookup x=some .local:=by first | exact .inl rfl | exact .inr rfl | assumption):PG X (.Name x pos) (i9 i):=by
 intro pins s σ H v u Q I r h
 exact wpAny_assign_Name (dN I hN hi hx r (fun s' I'=>⟨_,H,I',h⟩) hf)
def BY:qo:=fun vs σ H Q=>vs=[]/\Q σ H
def xt (t:TG) (u:qo):qo:=fun vs σ H Q=>∃ v r,vs=v :: r/\t v σ H fun σ' H'=>u r σ' H' Q
theorem vF:AD X [] BY:=by
 intro pins s σ H vs us Q I r h
 obtain⟨e,h⟩:=h
 subst e
 cases r
 exact assignInOrder_nil ⟨σ,H,I,h⟩
theorem sW {e:Expr} {es:List Expr} {t:TG} {u:qo} (h1:PG X e t) (h2:AD X es u)
  (hs:(assignEach (e :: es) X.env).map (·.2)=assign e X.env :: (assignEach es X.env).map (·.2):=by rfl):AD X (e :: es) (xt t u):=by
 intro pins s σ H vs us Q I r h
 obtain⟨v,vr,e1,h⟩:=h
 subst e1
 cases r with
 | cons r rr=>
  rw [hs]
  refine assignInOrder_cons (bc (h1 pins s σ H _ _ _ I r h) fun _ s1 ⟨σ1,H1,I1,q1⟩=>?_)
  exact h2 pins s1 σ1 H1 _ _ Q I1 rr q1
def wj (K:PySem.W.Frag) (n:Nat) (t:qo):TG:=fun v σ H Q=>∃ a xs,v=.ref a/\bS K H a xs/\xs.length=n/\t xs σ H Q
theorem sX {es:List Expr} {k:Nat} {t:qo} {n:Nat} (hc:X.calm=true) (h:AD X es t)
  (hn:(assignEach es X.env).length=n:=by rfl) (hst:(assignEach es X.env).findIdx? (·.1)=none:=by rfl):PG X (.Tuple es k pos) (wj X.K n t):=by
 intro pins s σ H v u Q I r hw
 obtain⟨a,xs,e1,hq,hl,hw⟩:=hw
 subst e1
 cases r
 obtain⟨its,rv,ht,hz⟩:=I.tuple hq
 refine assign_Tuple_tuple (I.ok.hd hc) ht (by simp [hn,← hl,rv.length]) hst fun h' hx=>?_
 have I1:Inv X pins σ H { s with heap:=h' }:=I.kept (t':=s.toks) fun b o e=>hx b o (Nat.ne_of_lt (Heap.lt_size e)) e
 exact h pins _ σ H xs _ Q I1 (by simpa using rv) hw
def BX (to ti:TE) (t:nY):TG:=fun v σ H Q=>to σ H fun o H1=>ti σ H1 fun i H2=>t o i v H2 fun H3=>Q σ H3
theorem yR {o i:Expr} {to ti:TE} {t:nY} (ho:PE X o to) (hi:PE X i ti) (hs:uK X t)
  (ha:∀ v,assign (.Subscript o i pos) X.env v=(do
   let ov ← holding [v] (eval o X.env)
   let iv ← holding [v,ov] (eval i X.env)
   standAt pos
   holding [v,ov,iv] (setItem ov iv v)
   release [v,ov,iv] []):=by intro _;rfl):PG X (.Subscript o i pos) (BX to ti t):=by
 intro pins s σ H v u Q I r h
 rw [ha]
 refine wpAny_bind (wpAny_holding (bc (ho pins s σ H _ I h) fun ov s1 ⟨x,H1,I1,r1,q1⟩=>?_))
 refine wpAny_bind (wpAny_holding (bc (hi pins s1 σ H1 _ I1 q1) fun iv s2 ⟨y,H2,I2,r2,q2⟩=>?_))
 refine wpAny_bind (wpAny_standAt (wpAny_bind (wpAny_holding (bc (hs pins s2 σ H2 x y v ov iv u _ I2 r1 r2 r q2) fun _ s3 ⟨H3,I3,q3⟩=>?_))))
 exact wpAny_release ⟨σ,H3,I3,q3⟩
def mR (te:TE) (g:TG):TS:=fun D σ H=>te σ H fun x H1=>g x σ H1 D.nx
theorem yO {tg e:Expr} {te:TE} {g:TG} (he:PE X e te) (hg:PG X tg g) (hs:swapsWithSole [tg] e pos.line X.env=pure false:=by rfl) (hw:swappedStores [tg] e X.env=pure none:=by rfl)
  (h1:(assignEach [tg] X.env).map (·.2)=[assign tg X.env]:=by rfl):PS X (.Assign [tg] e pos) (mR te g):=by
 intro pins s σ H D I h
 refine wpAny_Assign_stores (bc (he pins s σ H _ I h) fun v s1 ⟨x,H1,I1,r1,q1⟩=>?_) hs hw
 rw [h1]
 exact bc (hg pins s1 σ H1 x v _ I1 r1 q1) fun _ s2 q=>q
theorem yI {i:Nat} {x:Str} {e:Expr} {te:TE} {pos':Pos} (hN:X.N.Nodup) (hi:X.N[i]?=some x) (hx:uL X.env.scope x) (he:PE X e te) (hs:swapsWith e (some (.Name x pos')) pos.line X.env=pure false:=by rfl) (hf:X.fn x=true∨X.env.scope.names.lookup x=some .local:=by first | exact .inl rfl | exact .inr rfl | assumption) :
  PS X (.Assign [.Name x pos'] e pos) (mR te (i9 i)):=by
 intro pins s σ H D I h
 refine wpAny_Assign_Name (bc (he pins s σ H _ I h) fun v s1 ⟨y,H1,I1,r1,q1⟩=>?_) hs
 exact dN I1 hN hi hx r1 (fun s2 I2=>⟨_,H1,I2,q1⟩) hf
def AU (i j:Nat) (ta:TA):TS:=fun D σ H=>ta σ H fun vs H1=>∃ v w,vs=[v,w]/\D.nx ((σ.set i (some v)).set j (some w)) H1
theorem yK {i j:Nat} {x y:Str} {a b:Expr} {ta:TA} {px py pt:Pos} {kt k2 pt2} (hc:X.calm=true) (hN:X.N.Nodup) (hi:X.N[i]?=some x) (hj:X.N[j]?=some y) (hij:i≠j)
  (hx:X.env.scope.names.lookup x=some .local) (hy:X.env.scope.names.lookup y=some .local) (ha:PA X [a,b] ta)
  (hw:swappedStores [.Tuple [.Name x px,.Name y py] kt pt] (.Tuple [a,b] k2 pt2) X.env=pure (some [x,y]))
  (hs:swapsWithSole [.Tuple [.Name x px,.Name y py] kt pt] (.Tuple [a,b] k2 pt2) pos.line X.env=pure false:=by rfl) :
  PS X (.Assign [.Tuple [.Name x px,.Name y py] kt pt] (.Tuple [a,b] k2 pt2) pos) (AU i j ta):=by
 intro pins s σ H D I h
 rw [exec_Assign_arm]
 refine wpAny_bind (wpAny_standAt ?_)
 rw [hs]
 refine wpAny_bind (wpAny_pure ?_)
 rw [if_neg (by decide)]
 refine wpAny_bind (Tuple_ (bc (ha _ pins s σ H _ I h) fun us s1 ⟨vs,H1,I1,r1,q1⟩=>?_))
 obtain⟨v,w,e1,q1⟩:=q1
 subst e1
 obtain⟨u1,u2,rfl,rv,rw'⟩:∃ u1 u2,us=[u1,u2]/\aO v u1/\aO w u2:=by
  cases r1 with
  | cons p q=>
   cases q with
   | cons p' q'=>
    cases q'
    exact⟨_,_,rfl,p,p'⟩
 refine wpAny_newObj_type ?_ lu
 have I2:Inv X pins σ H1 { s1 with heap:=s1.heap.push { cls:=.type "tuple", data:=.seq [u1,u2].toArray } }:=I1.kept (t':=s1.toks) fun b o e=>Heap.get?_push_of_some _ e
 rw [hw]
 refine wpAny_bind (wpAny_pure ?_)
 show wpAny (model X.prog X.w) X.A (do rule "assign.swapped-stores";let items ← unpackItems (.ref s1.heap.objs.size) 2 none;assignInOrder [fun v=>bindName X.env y v,fun v=>bindName X.env x v] items.reverse;pure Flow.next) _ _ _
 refine wpAny_bind (wpAny_rule (wpAny_bind (unpackItems_tuple (items:=#[u1,u2]) (I.ok.hd hc) (IsTup.new s1.heap _) fun h' hx'=>?_)))
 have I3:=I2.kept (h':=h') (t':=s1.toks) fun b o e=>hx' b o (Nat.ne_of_lt (Heap.lt_size e)) e
 show wpAny _ _ (assignInOrder [fun v=>bindName X.env y v,fun v=>bindName X.env x v] [u2,u1] >>= fun _=>pure Flow.next) _ _ _
 refine wpAny_bind (assignInOrder_cons (wpAny_bindName (dN I3 hN hj (.inl hy) rw' (fun s2 I4=>?_) (.inr hy))))
 refine assignInOrder_cons (wpAny_bindName (dN I4 hN hi (.inl hx) rv (fun s3 I5=>assignInOrder_nil (wpAny_pure ?_)) (.inr hx)))
 rw [List.set_comm _ _ (Ne.symm hij)] at I5
 exact⟨_,H1,I5,q1⟩
def A0 (i:Nat) (te:TE) (ti:xx):TS:=fun D σ H=>∃ x,σ[i]?=some (some x)/\te σ H fun y H1=>ti x y H1 fun z H2=>D.nx (σ.set i (some z)) H2
theorem yN {i:Nat} {x:Str} {e:Expr} {te:TE} {op:Operator} {ti:xx} {pos':Pos} (hN:X.N.Nodup) (hi:X.N[i]?=some x) (hx:uL X.env.scope x) (he:PE X e te) (ho:AC X op ti) (hf:X.fn x=true∨X.env.scope.names.lookup x=some .local:=by first | exact .inl rfl | exact .inr rfl | assumption) :
  PS X (.AugAssign (.Name x pos') op e pos) (A0 i te ti):=by
 intro pins s σ H D I h
 obtain⟨v,e1,h⟩:=h
 obtain⟨m,hn,hl⟩:=I.loc
 have vis:B9 X.env.scope x:=by rcases hx with k | k;exact .inl k;exact .inr (.inl k)
 obtain⟨u,r,l⟩:=hl i x v hi e1 vis
 refine wpAny_AugAssign_Name ?_
 have go:wpAny (model X.prog X.w) X.A (eval e X.env) (fun w s₂=>wpAny (model X.prog X.w) X.A (inplaceOp op u w) (fun r s₃=>wpAny (model X.prog X.w) X.A (storeName X.env x r) (fun _=>SP X pins D .next) X.xe s₃) X.xe s₂) X.xe s:=by
  refine bc (he pins s σ H _ I h) fun w s1 ⟨y,H1,I1,r1,q1⟩=>?_
  refine bc (ho pins s1 σ H1 v y u w _ I1 r r1 q1) fun z s2 ⟨zv,H2,I2,r2,q2⟩=>?_
  exact dN I2 hN hi hx r2 (fun s3 I3=>⟨_,H2,I3,q2⟩) hf
 rcases l with ⟨hk,hm⟩ | ⟨hk,c,hc,hcell⟩
 ·exact wpAny_loadName_local I.ok.kind hk hn hm go
 ·rcases hk with hk | hk
  ·exact wpAny_loadName_cell I.ok.kind hk hc hcell go
  ·rcases hx with k | k
   ·have:X.env.scope.names.lookup x=some .free:=hk
    rw [k] at this;cases this
   ·have:X.env.scope.names.lookup x=some .free:=hk
    rw [k] at this;cases this
def wW (to ti te:TE) (tget:V->V->Hp->VK->Prop) (tip:xx) (tset:nY):TS:=fun D σ H=>to σ H fun o H1=>ti σ H1 fun i H2=>tget o i H2 fun x H3=>te σ H3 fun y H4=>tip x y H4 fun z H5=>tset o i z H5 fun H6=>D.nx σ H6
def Ao (X:Cx) (t:V->V->Hp->VK->Prop):Prop:=
 ∀ (pins:List (Addr×Obj)) (s:Shared) (σ:St) (H:Hp) (o i:V) (ov iv:Value) (Q:VK),Inv X pins σ H s->aO o ov->aO i iv->t o i H Q→
  wpAny (model X.prog X.w) X.A (getItem ov iv) (EP X pins σ Q) X.xe s
theorem vz {o i e:Expr} {to ti te:TE} {tget:V->V->Hp->VK->Prop} {tip:xx} {tset:nY} {op:Operator} {tpos:Pos} (ho:PE X o to) (hi:PE X i ti) (hg:Ao X tget) (he:PE X e te) (hp:AC X op tip) (hs:uK X tset)
  (ha:∀ ov iv new,augStore i ov iv new=(do holding [new,ov,iv] (setItem ov iv new);release [new,ov,iv] [];pure .next):=by intros;rfl):PS X (.AugAssign (.Subscript o i tpos) op e pos) (wW to ti te tget tip tset):=by
 intro pins s σ H D I h
 refine wpAny_AugAssign_SubscriptAny (bc (ho pins s σ H _ I h) fun ov s1 ⟨x1,H1,I1,r1,q1⟩=>?_) ha
 refine bc (hi pins s1 σ H1 _ I1 q1) fun iv s2 ⟨x2,H2,I2,r2,q2⟩=>?_
 refine bc (hg pins s2 σ H2 x1 x2 ov iv _ I2 r1 r2 q2) fun old s3 ⟨x3,H3,I3,r3,q3⟩=>?_
 refine bc (he pins s3 σ H3 _ I3 q3) fun v s4 ⟨x4,H4,I4,r4,q4⟩=>?_
 refine bc (hp pins s4 σ H4 x3 x4 old v _ I4 r3 r4 q4) fun new s5 ⟨x5,H5,I5,r5,q5⟩=>?_
 exact bc (hs pins s5 σ H5 x1 x2 x5 ov iv new _ I5 r1 r2 r5 q5) fun _ s6 ⟨H6,I6,q6⟩=>⟨σ,H6,I6,q6⟩
def Eh (f:Int->Int->Int):xx:=fun x y H Q=>∃ i j,x=.int i/\y=.int j/\Q (.int (f i j)) H
theorem t9:AC X .Add (Eh fun i j=>i+j):=by
 intro pins s σ H x y v u Q I r1 r2 h
 obtain⟨i,j,e1,e2,q⟩:=h
 subst e1;subst e2
 obtain⟨t,rfl⟩:=r1
 obtain⟨t',rfl⟩:=r2
 exact iadd_int ⟨.int _,H,I.tok _,⟨_,rfl⟩,q⟩
theorem nL:AC X .Sub (Eh fun i j=>i - j):=by
 intro pins s σ H x y v u Q I r1 r2 h
 obtain⟨i,j,e1,e2,q⟩:=h
 subst e1;subst e2
 obtain⟨t,rfl⟩:=r1
 obtain⟨t',rfl⟩:=r2
 exact isub_int ⟨.int _,H,I.tok _,⟨_,rfl⟩,q⟩
end
section
variable {X:Cx} {pos:Pos}
def qD (c:TT) (tb:TS):TS:=fun D σ H=>∃ W:Nat->St->Hp->Prop,(∃ m,W m σ H)/\∀ m σ H,W m σ H→
 c σ H fun b H1=>if b=true then ∃ N:St->Hp->Prop,(∀ σ' H',N σ' H'->∃ m',m' < m/\W m' σ' H')/\tb { D with nx:=N,ct:=N,bk:=D.nx } σ H1 else D.nx σ H1
theorem sO {c:Expr} {body:List Stmt} {tc:TT} {tb:TS} (hp:PassesOwn (model X.prog X.w) X.A X.env X.xe) (hc:PT X c tc) (hb:oa X body tb):PS X (.While c body [] pos) (qD tc tb):=by
 intro pins s σ H D I h
 obtain⟨W,⟨m0,w0⟩,turn⟩:=h
 refine wpAny_While (codeAny_whileLoop (fun n s'=>∃ σ' H',Inv X pins σ' H' s'/\W n σ' H') ?_ m0 ⟨σ,H,I,w0⟩)
 rintro n s1 ⟨σ1,H1,I1,w1⟩
 refine wpAny_passesOwn hp (bc (hc pins s1 σ1 H1 _ I1 (turn n σ1 H1 w1)) fun b s2 ⟨H2,I2,q2⟩=>?_)
 cases b with
 | true=>
  obtain⟨N,hN,q2⟩:=q2
  rw [if_pos rfl]
  refine wpAny_passesOwn hp (bc (hb pins s2 σ1 H2 _ I2 q2) fun f s3 q3=>?_)
  cases f with
  | next=>
   obtain⟨σ3,H3,I3,n3⟩:=q3
   obtain⟨m',hm,w3⟩:=hN σ3 H3 n3
   exact⟨m',hm,σ3,H3,I3,w3⟩
  | cont=>
   obtain⟨σ3,H3,I3,n3⟩:=q3
   obtain⟨m',hm,w3⟩:=hN σ3 H3 n3
   exact⟨m',hm,σ3,H3,I3,w3⟩
  | brk=>exact q3
  | ret v=>exact q3
 | false=>
  rw [if_neg Bool.false_ne_true]
  exact wpAny_execs_nil ⟨σ1,H2,I2,q2⟩
end
structure It where
 go:Nat->Hp->Prop
 yld:Nat->Hp->V->Hp->Prop
 stop:Nat->Hp->Prop
def fh (X:Cx) (pins:List (Addr×Obj)) (H:Hp) (b:Addr):Prop:=
 H b=none/\b≠X.env.locals/\b∉X.fs/\(b∈X.ex∨X.s₀.heap.get? b=none)/\(∀ x c,X.env.cells.lookup x=some c->c≠b)/\∀ p∈X.pn++pins,p.1≠b
theorem Inv.fpOk {X:Cx} {pins:List (Addr×Obj)} {σ:St} {H H':Hp} {s:Shared} {b:Addr} (I:Inv X pins σ H s) (hb:s.heap.objs.size≤b) (hn:H' b=none):fh X pins H' b:=by
 refine⟨hn,Nat.ne_of_gt (Nat.lt_of_lt_of_le I.lt hb),I.nofs hb,.inr (Heap.get?_none_of_le (Nat.le_trans I.sz hb)),fun x c e z=>?_,fun p hp z=>?_⟩
 ·obtain⟨v,q⟩:=I.cell x c e
  exact absurd (Nat.lt_of_lt_of_le q.lt (by rw [z];exact hb)) (Nat.lt_irrefl _)
 ·exact absurd (Nat.lt_of_lt_of_le (Heap.lt_size (I.pin p hp).1) (by rw [z];exact hb)) (Nat.lt_irrefl _)
structure nW (P:Program) (w:World) (K:PySem.W.Frag) (tg:Expr) (J:It) (fp:List Addr) (it:Addr) (tn:Nat->Heap->Prop):Prop where
 mem:it∈fp
 obj:∀ i h,tn i h->∀ b∈fp,∃ o,h.get? b=some o/\∀ v,o.data≠.cell v
 keep:∀ i h h',tn i h->(∀ b∈fp,∀ o,h.get? b=some o->h'.get? b=some o)->tn i h'
 item:∀ (X:Cx),X.prog=P->X.w=w->X.K=K->X.calm=true->∀ (i:Nat) (pins:List (Addr×Obj)) (s:Shared) (σ:St) (H:Hp) (E:Value->Shared->Prop),Inv X pins σ H s->(∀ b∈fp,fh X pins H b)->tn i s.heap->J.go i H→
  wpAny (model P w) X.A (pyNext (.ref it)) (fun r s1=>∃ u,r=some u∧
   wpAny (model P w) X.A (letOwnedTupleGo tg (.ref it) u) (fun _ s2=>∃ x H',Inv X pins σ H' s2/\aO x u/\J.yld i H x H'/\tn (i+1) s2.heap/\∀ b∈fp,H' b=none) E s1) E s
 done:∀ (X:Cx),X.prog=P->X.w=w->X.K=K->X.calm=true->∀ (i:Nat) (pins:List (Addr×Obj)) (s:Shared) (σ:St) (H:Hp) (E:Value->Shared->Prop),Inv X pins σ H s->(∀ b∈fp,fh X pins H b)->tn i s.heap->J.stop i H→
  wpAny (model P w) X.A (pyNext (.ref it)) (fun r s1=>r=none/\Inv X pins σ H s1) E s
 self:∀ (A:Around) (i:Nat) (s:Shared) (Q:Value->Shared->Prop) (E:Value->Shared->Prop),tn i s.heap->Q (.ref it) s->wpAny (model P w) A (pyIter (.ref it)) Q E s
abbrev TI:=St->Hp->(It->Hp->Prop)->Prop
def Ez (X:Cx) (pins:List (Addr×Obj)) (σ:St) (tg:Expr) (R:It->Hp->Prop) (itv:Value) (s2:Shared):Prop:=
 ∃ (it:Addr) (fp:List Addr) (tn:Nat->Heap->Prop) (J:It) (H':Hp),itv=.ref it/\Inv X pins σ H' s2/\nW X.prog X.w X.K tg J fp it tn/\tn 0 s2.heap/\(∀ b∈fp,fh X pins H' b)/\R J H'
def PI (X:Cx) (tg iter:Expr) (wi:TI):Prop:=
 ∀ (pins:List (Addr×Obj)) (s:Shared) (σ:St) (H:Hp) (R:It->Hp->Prop),Inv X pins σ H s->wi σ H R→
  wpAny (model X.prog X.w) X.A (eval iter X.env) (fun v s1=>wpAny (model X.prog X.w) X.A (pyIter v) (Ez X pins σ tg R) X.xe s1) X.xe s
theorem oR {M:Model} {A:Around} {E:Value->Shared->Prop} {s:Shared} {tg:Expr} {it:Addr} {u:Value} {o:Obj} {n:String} {vs:Array Value} {Q:Unit->Shared->Prop} (ho:s.heap.get? it=some o) (hc:o.cls=.type n) (hd:o.data=.fields vs)
  (hn:["enumerate", "zip", "dict_itemiterator", "dict_reverseitemiterator", "odict_iterator", "itertools.zip_longest", "itertools.pairwise"].contains n=false) (hQ:Q () s):wpAny M A (letOwnedTupleGo tg (.ref it) u) Q E s:=by
 unfold letOwnedTupleGo
 cases tg <;> first
  | exact wpAny_pure hQ
  | (cases u <;> first
    | exact wpAny_pure hQ
    | (refine wpAny_bind (wpAny_load ho ?_)
       rw [hc,hd]
       show wpAny M A (if (["enumerate", "zip", "dict_itemiterator", "dict_reverseitemiterator", "odict_iterator", "itertools.zip_longest", "itertools.pairwise"].contains n && vs[0]? == some (rawInt _))=true then _ else _) Q E s
       rw [if_neg (by intro h;rw [hn,Bool.false_and] at h;cases h)]
       exact wpAny_pure hQ))
def oh (K:PySem.W.Frag) (a:Addr):It:=
 ⟨fun i H=>∃ xs x,aF K H a xs/\xs[i]?=some x,fun i H x H'=>H'=H/\∀ xs,aF K H a xs->xs[i]?=some x,fun i H=>∃ xs,aF K H a xs/\xs.length≤i⟩
def AF (K:PySem.W.Frag) (a:Addr):It:=
 ⟨fun i H=>∃ xs x,bS K H a xs/\xs[i]?=some x,fun i H x H'=>H'=H/\∀ xs,bS K H a xs->xs[i]?=some x,fun i H=>∃ xs,bS K H a xs/\xs.length≤i⟩
def xC (lo:Int) (n:Nat):It:=⟨fun i _=>i < n,fun i H x H'=>H'=H/\x=.int (lo+i),fun i _=>n≤i⟩
theorem jC {P:Program} {w:World} {K:PySem.W.Frag} {tg:Expr} (a it:Addr):nW P w K tg (oh K a) [it] it (fun i h=>h.IsListIter it a i) where
 mem:=by simp
 obj:=fun i h st b hb=>by
  have e:b=it:=by simpa using hb
  subst e
  obtain⟨o,e,c,d⟩:=st
  exact⟨o,e,fun v z=>by rw [d] at z;cases z⟩
 keep:=fun i h h' st k=>st.at fun o e=>k it (by simp) o e
 item:=by
  intro X hP hw hK hc i pins s σ H E I hf st hg
  subst hP hw hK
  obtain⟨xs,x,hq,hx⟩:=hg
  obtain⟨its,rv,p,hz⟩:=I.list hq
  obtain⟨u,hu,ru⟩:=rv.get hx
  obtain⟨f0,f1,f2,f3,f4,f5⟩:=hf it (by simp)
  refine wpAny_pyNext_list_item st p.isList (x:=u) (by simpa using hu) fun h' st' sb=>?_
  have I1:Inv X pins σ H { s with heap:=h' }:=I.turned (t':=s.toks) (fun b o hb e=>(sb.2 b hb).trans e) f0 f1 f3 f4 f5
  obtain⟨o,e,c,d⟩:=id st'
  exact⟨u,rfl,oR (s:={ s with heap:=h' }) e c d (by decide) ⟨x,H,I1,ru,⟨rfl,fun ys hy=>by rw [I.list_inj hy hq];exact hx⟩,st',fun b hb=>(hf b hb).1⟩⟩
 done:=by
  intro X hP hw hK hc i pins s σ H E I hf st hg
  subst hP hw hK
  obtain⟨xs,hq,hx⟩:=hg
  obtain⟨its,rv,p,hz⟩:=I.list hq
  obtain⟨f0,f1,f2,f3,f4,f5⟩:=hf it (by simp)
  have hl:=rv.length
  exact wpAny_pyNext_list_end (I.ok.hd hc) st p.isList (by simp;omega) fun h' eb=>⟨rfl,I.turned (t':=s.toks) (fun b o hb e=>eb b o hb e) f0 f1 f3 f4 f5⟩
 self:=fun _ _ _ _ _ st h=>wpAny_pyIter_listiter st h
theorem mG {P:Program} {w:World} {K:PySem.W.Frag} {tg:Expr} (a it:Addr):nW P w K tg (AF K a) [it] it (fun i h=>h.IsTupleIter it a i) where
 mem:=by simp
 obj:=fun i h st b hb=>by
  have e:b=it:=by simpa using hb
  subst e
  obtain⟨o,e,c,d⟩:=st
  exact⟨o,e,fun v z=>by rw [d] at z;cases z⟩
 keep:=fun i h h' st k=>st.at fun o e=>k it (by simp) o e
 item:=by
  intro X hP hw hK hc i pins s σ H E I hf st hg
  subst hP hw hK
  obtain⟨xs,x,hq,hx⟩:=hg
  obtain⟨its,rv,p,hz⟩:=I.tuple hq
  obtain⟨u,hu,ru⟩:=rv.get hx
  obtain⟨f0,f1,f2,f3,f4,f5⟩:=hf it (by simp)
  refine wpAny_pyNext_tuple_item st (show s.heap.IsTuple a its.toArray from p) (x:=u) (by simpa using hu) fun h' st' sb=>?_
  have I1:Inv X pins σ H { s with heap:=h' }:=I.turned (t':=s.toks) (fun b o hb e=>(sb.2 b hb).trans e) f0 f1 f3 f4 f5
  obtain⟨o,e,c,d⟩:=id st'
  exact⟨u,rfl,oR (s:={ s with heap:=h' }) e c d (by decide) ⟨x,H,I1,ru,⟨rfl,fun ys hy=>by rw [I.tuple_inj hy hq];exact hx⟩,st',fun b hb=>(hf b hb).1⟩⟩
 done:=by
  intro X hP hw hK hc i pins s σ H E I hf st hg
  subst hP hw hK
  obtain⟨xs,hq,hx⟩:=hg
  obtain⟨its,rv,p,hz⟩:=I.tuple hq
  obtain⟨f0,f1,f2,f3,f4,f5⟩:=hf it (by simp)
  have hl:=rv.length
  exact wpAny_pyNext_tuple_end (I.ok.hd hc) st (show s.heap.IsTuple a its.toArray from p) (by simp;omega) fun h' eb=>⟨rfl,I.turned (t':=s.toks) (fun b o hb e=>eb b o hb e) f0 f1 f3 f4 f5⟩
 self:=fun _ _ _ _ _ st h=>wpAny_pyIter_tupleiter st h
theorem mH {P:Program} {w:World} {K:PySem.W.Frag} {tg:Expr} (it:Addr) (lo:Int) (n:Nat):nW P w K tg (xC lo n) [it] it (fun i h=>IsRangeIter h it (lo+(i:Nat) * 1) ((n:Int) - (i:Nat)) 1) where
 mem:=by simp
 obj:=fun i h st b hb=>by
  have e:b=it:=by simpa using hb
  subst e
  exact⟨_,st,fun v z=>by
   have z':Data.fields _=Data.cell v:=z
   cases z'⟩
 keep:=fun i h h' st k=>k it (by simp) _ st
 item:=by
  intro X hP hw hK hc i pins s σ H E I hf st hg
  subst hP hw hK
  obtain⟨f0,f1,f2,f3,f4,f5⟩:=hf it (by simp)
  have W:=Walks.range (prog:=X.prog) (w:=X.w) (I.ok.hd hc) it lo 1 n
  refine W.item i s _ _ hg st fun v h' tk hv st' kk=>?_
  obtain⟨t,rfl⟩:=hv
  have I1:Inv X pins σ H { s with heap:=h',toks:=tk }:=I.turned (fun b o hb e=>kk b o (by simpa using hb) e) f0 f1 f3 f4 f5
  refine⟨_,rfl,oR (s:={ s with heap:=h',toks:=tk }) (n := "range_iterator") st' rfl rfl (by decide) ⟨.int (lo+i),H,I1,⟨t,?_⟩,⟨rfl,rfl⟩,st',fun b hb=>(hf b hb).1⟩⟩
  rw [Int.mul_one]
 done:=by
  intro X hP hw hK hc i pins s σ H E I hf st hg
  subst hP hw hK
  obtain⟨f0,f1,f2,f3,f4,f5⟩:=hf it (by simp)
  exact wpAny_pyNext_range_end (I.ok.hd hc) st (by have:n≤i:=hg;omega) fun h' eb=>⟨rfl,I.turned (t':=s.toks) (fun b o hb e=>eb b o hb e) f0 f1 f3 f4 f5⟩
 self:=fun _ _ _ _ _ st h=>wpAny_pyIter_rangeiter st h
end L2
namespace L2
open PySem PySem.Spec PyProof.Rows
section
variable {X:Cx} {tg:Expr}
def ua (K:PySem.W.Frag) (tl:TE):TI:=fun σ H R=>tl σ H fun x H1=>∃ a,x=.ref a/\(∃ xs,aF K H1 a xs)/\R (oh K a) H1
def Fi (K:PySem.W.Frag) (tl:TE):TI:=fun σ H R=>tl σ H fun x H1=>∃ a,x=.ref a/\(∃ xs,bS K H1 a xs)/\R (AF K a) H1
theorem vD {l:Expr} {tl:TE} (hl:PE X l tl):PI X tg l (ua X.K tl):=by
 intro pins s σ H R I h
 refine bc (hl pins s σ H _ I h) fun v s1 ⟨x,H1,I1,r1,q1⟩=>?_
 obtain⟨a,e,⟨xs,hq⟩,q⟩:=q1
 subst e
 cases r1
 obtain⟨its,rv,p,hz⟩:=I1.list hq
 refine wpAny_pyIter_list p.isList ?_
 refine⟨s1.heap.objs.size,[s1.heap.objs.size],_,_,H1,rfl,I1.kept (t':=s1.toks) fun b o e=>Heap.get?_push_of_some _ e,jC a _,⟨_,Heap.get?_push_size _ rfl,rfl,rfl⟩,fun b hb=>?_,q⟩
 have e:b=s1.heap.objs.size:=by simpa using hb
 subst e
 exact I1.fpOk (Nat.le_refl _) (I1.hok.fresh (Nat.le_refl _))
theorem lO {pins:List (Addr×Obj)} {σ:St} {H:Hp} {s:Shared} {R:It->Hp->Prop} {E:Value->Shared->Prop} {lo hi:Int} {t u v:Tok} {tk:Nat} (I:Inv X pins σ H s) (h1:-(2 ^ 62)≤lo) (h2:lo < 2 ^ 62) (h3:-(2 ^ 62)≤hi) (h4:hi < 2 ^ 62)
  (q:R (xC lo (hi - lo).toNat) H):wpAny (model X.prog X.w) X.A (pyIter (.ref s.heap.objs.size)) (Ez X pins σ tg R) E { s with heap:=s.heap.push { cls:=.type "range", data:=.fields #[.int lo t,.int hi u,.int 1 v] },toks:=tk }:=by
 refine wpAny_pyIter_range (IsRange.new ..) (small_one h1 h2 h3 h4) ?_
 have I1:Inv X pins σ H { s with heap:=s.heap.push { cls:=.type "range", data:=.fields #[.int lo t,.int hi u,.int 1 v] },toks:=tk }:=I.kept fun b o e=>Heap.get?_push_of_some _ e
 refine⟨(s.heap.push { cls:=.type "range", data:=.fields #[.int lo t,.int hi u,.int 1 v] }).objs.size,[(s.heap.push { cls:=.type "range", data:=.fields #[.int lo t,.int hi u,.int 1 v] }).objs.size],_,_,H,rfl,
  I1.kept (t':=tk) fun b o e=>Heap.get?_push_of_some _ e,mH _ lo (hi - lo).toNat,?_,fun b hb=>?_,q⟩
 ·have e1:lo+((0:Nat):Int) * 1=lo:=by simp
  have e2:(((hi - lo).toNat:Nat):Int) - ((0:Nat):Int)=Builtin.Range.rangeSize lo hi 1:=by rw [rangeSize_one];split <;> omega
  show IsRangeIter _ _ (lo+((0:Nat):Int) * 1) ((((hi - lo).toNat:Nat):Int) - ((0:Nat):Int)) 1
  rw [e1,e2]
  exact Heap.get?_push_size _ rfl
 ·have e:b=(s.heap.push { cls:=.type "range", data:=.fields #[.int lo t,.int hi u,.int 1 v] }).objs.size:=by simpa using hb
  subst e
  exact I1.fpOk (Nat.le_refl _) (I1.hok.fresh (Nat.le_refl _))
def xp (ta:TA):TI:=fun σ H R=>ta σ H fun vs H1=>∃ j:Int,vs=[.int j]/\-(2 ^ 62)≤j/\j < 2 ^ 62/\R (xC 0 j.toNat) H1
def xo (ta:TA):TI:=fun σ H R=>ta σ H fun vs H1=>∃ i j:Int,vs=[.int i,.int j]/\(-(2 ^ 62)≤i/\i < 2 ^ 62/\-(2 ^ 62)≤j/\j < 2 ^ 62)/\R (xC i (j - i).toNat) H1
theorem pS {a:Expr} {ta:TA} {p pos:Pos} (hg:Gl X "range") (hm:X.mg "range" = none) (ha:PA X [a] ta) (hs:starEach [a] X.env=[(false,eval a X.env)]:=by rfl):PI X tg (.Call (.Name "range" p) [a] [] pos) (xp ta):=by
 intro pins s σ H R I h
 refine Call_ (gL I hg hm boot_range (PyProof.Rows.callWith_type1 (bc (ha pos pins s σ H _ I h) fun us s1 ⟨vs,H1,I1,r1,q1⟩=>?_) hs rfl))
 obtain⟨j,e,q1,q2,q⟩:=q1
 subst e
 cases r1 with
 | cons r rr=>
  cases rr
  obtain⟨t,rfl⟩:=r
  exact call_range_1 (lO I1 (by omega) (by omega) q1 q2 (by simpa using q))
theorem pR {a b:Expr} {ta:TA} {p pos:Pos} (hg:Gl X "range") (hm:X.mg "range" = none) (ha:PA X [a,b] ta) (hs:starEach [a,b] X.env=[(false,eval a X.env),(false,eval b X.env)]:=by rfl) (hs2:starEach [b] X.env=[(false,eval b X.env)]:=by rfl) :
  PI X tg (.Call (.Name "range" p) [a,b] [] pos) (xo ta):=by
 intro pins s σ H R I h
 refine Call_ (gL I hg hm boot_range (PyProof.Rows.callWith_type1 (bc (ha pos pins s σ H _ I h) fun us s1 ⟨vs,H1,I1,r1,q1⟩=>?_) (by rw [hs,hs2]) (by rw [hs2];rfl)))
 obtain⟨i,j,e,⟨q1,q2,q3,q4⟩,q⟩:=q1
 subst e
 cases r1 with
 | cons r rr=>
  cases rr with
  | cons r' rr=>
   cases rr
   obtain⟨t,rfl⟩:=r
   obtain⟨t',rfl⟩:=r'
   exact call_range_2 (lO I1 q1 q2 q3 q4 q)
def AY (wi:TI) (g:TG) (tb:TS):TS:=fun D σ H=>wi σ H fun J H1=>∃ W:Nat->Nat->St->Hp->Prop,(∃ m,W 0 m σ H1)/\∀ i m σ H,W i m σ H→
 (J.stop i H/\D.nx σ H)∨(J.go i H/\∃ N:St->Hp->Prop,(∀ σ' H',N σ' H'->∃ m',m' < m/\W (i+1) m' σ' H')/\∀ x H',J.yld i H x H'->g x σ H' fun σ2 H2=>tb { D with nx:=N,ct:=N,bk:=D.nx } σ2 H2)
def gI (fp:List Addr) (h:Heap):List (Addr×Obj):=fp.filterMap fun b=>(h.get? b).map fun o=>(b,o)
theorem cP {fp:List Addr} {h:Heap} {b:Addr} {o:Obj} (hb:b∈fp) (e:h.get? b=some o):(b,o)∈gI fp h:=List.mem_filterMap.mpr ⟨b,hb,by rw [e];rfl⟩
theorem pX {fp:List Addr} {h:Heap} {p:Addr×Obj} (hp:p∈gI fp h):p.1∈fp/\h.get? p.1=some p.2:=by
 obtain⟨b,hb,e⟩:=List.mem_filterMap.mp hp
 cases q:h.get? b with
 | none=>rw [q] at e;cases e
 | some o=>
  rw [q] at e
  have e':(b,o)=p:=Option.some.inj e
  subst e'
  exact⟨hb,q⟩
theorem Inv.pinned {pins:List (Addr×Obj)} {σ:St} {H:Hp} {s:Shared} {fp:List Addr} (I:Inv X pins σ H s) (hf:∀ b∈fp,fh X pins H b) (ho:∀ b∈fp,∃ o,s.heap.get? b=some o/\∀ v,o.data≠.cell v):Inv X (pins++gI fp s.heap) σ H s:=
 I.pins_of fun p hp=>(List.mem_append.mp hp).elim (fun z=>I.pin p (List.mem_append_right _ z)) fun z=>by
  obtain⟨hb,e⟩:=pX z
  obtain⟨f0,f1,f2,_⟩:=hf p.1 hb
  obtain⟨o,e',d⟩:=ho p.1 hb
  rw [e] at e';cases e'
  exact⟨e,f0,f1,f2,d⟩
theorem Inv.unpinned {pins pl:List (Addr×Obj)} {σ:St} {H:Hp} {s:Shared} (I:Inv X (pins++pl) σ H s):Inv X pins σ H s:=I.pins_of fun p hp=>I.pin p (List.mem_append_right _ (List.mem_append_left _ hp))
theorem yL {iter:Expr} {body:List Stmt} {wi:TI} {g:TG} {tb:TS} {pos:Pos} (hp:PassesOwn (model X.prog X.w) X.A X.env X.xe) (hc:X.calm=true) (hi:PI X tg iter wi) (hg:PG X tg g) (hb:oa X body tb)
  (hs:∀ x,foldedSetIterable iter X.env x=pure x:=by intro _;rfl):PS X (.For tg iter body [] pos) (AY wi g tb):=by
 intro pins s σ H D I h
 refine wpAny_For (bc (hi pins s σ H _ I h) fun v s1 h1=>bc h1 fun itv s2 h2=>?_) hs
 obtain⟨it,fp,tn,J,H2,e,I2,T,st2,f2,W,⟨m0,w0⟩,turn⟩:=h2
 subst e
 have stat:∀ {H':Hp},(∀ b∈fp,H' b=none)->∀ b∈fp,fh X pins H' b:=fun hn b hb=>⟨hn b hb,(f2 b hb).2⟩
 refine codeAny_forLoop_any (fun n s'=>∃ i σ' H',Inv X pins σ' H' s'/\tn i s'.heap/\(∀ b∈fp,H' b=none)/\W i n σ' H') ?_ m0 ⟨0,σ,H2,I2,st2,fun b hb=>(f2 b hb).1,w0⟩
 rintro n s3 ⟨i,σ3,H3,I3,st3,fr3,w3⟩
 rcases turn i n σ3 H3 w3 with ⟨stop,qn⟩ | ⟨go,N,hN,step⟩
 ·refine wpAny_passesOwn hp (bc (T.done X rfl rfl rfl hc i pins s3 σ3 H3 X.xe I3 (stat fr3) st3 stop) fun r s4 ⟨hr,I4⟩=>?_)
  subst hr
  exact wpAny_execs_nil ⟨σ3,H3,I4,qn⟩
 ·refine wpAny_passesOwn hp (bc (T.item X rfl rfl rfl hc i pins s3 σ3 H3 X.xe I3 (stat fr3) st3 go) fun r s4 ⟨u,hr,h4⟩=>?_)
  subst hr
  refine wpAny_passesOwn hp (bc h4 fun _ s5 ⟨x,H5,I5,r5,y5,st5,fr5⟩=>?_)
  have I5':=I5.pinned (stat fr5) (T.obj _ _ st5)
  refine wpAny_passesOwn hp (bc (hg _ s5 σ3 H5 x u _ I5' r5 (step x H5 y5)) fun _ s6 ⟨σ6,H6,I6,q6⟩=>?_)
  refine wpAny_passesOwn hp (bc (hb _ s6 σ6 H6 _ I6 q6) fun f s7 q7=>?_)
  have again:∀ {σ7:St} {H7:Hp},Inv X (pins++gI fp s5.heap) σ7 H7 s7->N σ7 H7->∃ m,m < n/\∃ i σ' H',Inv X pins σ' H' s7/\tn i s7.heap/\(∀ b∈fp,H' b=none)/\W i m σ' H':=fun {σ7 H7} I7 n7=>by
   obtain⟨m',hm,w7⟩:=hN σ7 H7 n7
   refine⟨m',hm,i+1,σ7,H7,I7.unpinned,T.keep _ _ _ st5 fun b hb o e=>(I7.pin (b,o) (List.mem_append_right _ (List.mem_append_right _ (cP hb e)))).1,fun b hb=>?_,w7⟩
   obtain⟨o,e,d⟩:=T.obj _ _ st5 b hb
   exact (I7.pin (b,o) (List.mem_append_right _ (List.mem_append_right _ (cP hb e)))).2.1
  cases f with
  | next=>obtain⟨σ7,H7,I7,n7⟩:=q7;exact again I7 n7
  | cont=>obtain⟨σ7,H7,I7,n7⟩:=q7;exact again I7 n7
  | brk=>obtain⟨σ7,H7,I7,q7⟩:=q7;exact⟨σ7,H7,I7.unpinned,q7⟩
  | ret v=>obtain⟨x7,σ7,H7,I7,r7,q7⟩:=q7;exact⟨x7,σ7,H7,I7.unpinned,r7,q7⟩
end
theorem cJ {K:PySem.W.Frag} {a:Addr} {xs:List V} {g:TG} {tb:TS} {D:im} {σ:St} {H:Hp} (Pv:Nat->St->Hp->Prop) (h0:Pv 0 σ H) (hl:∀ i σ H,i≤xs.length->Pv i σ H->aF K H a xs)
  (hs:∀ i x σ H,xs[i]?=some x->Pv i σ H->g x σ H fun σ2 H2=>tb { D with nx:=Pv (i+1),ct:=Pv (i+1),bk:=D.nx } σ2 H2) (hd:∀ σ H,Pv xs.length σ H->D.nx σ H) :
  ∃ W:Nat->Nat->St->Hp->Prop,(∃ m,W 0 m σ H)/\∀ i m σ H,W i m σ H→
   ((oh K a).stop i H/\D.nx σ H)∨((oh K a).go i H/\∃ N:St->Hp->Prop,(∀ σ' H',N σ' H'->∃ m',m' < m/\W (i+1) m' σ' H')/\∀ x H',(oh K a).yld i H x H'->g x σ H' fun σ2 H2=>tb { D with nx:=N,ct:=N,bk:=D.nx } σ2 H2):=by
 refine⟨fun i m σ H=>m=xs.length - i/\i≤xs.length/\Pv i σ H,⟨xs.length,by simp,Nat.zero_le _,h0⟩,?_⟩
 rintro i m σ H ⟨rfl,hi,p⟩
 have q:=hl i σ H hi p
 by_cases hlt:i < xs.length
 ·refine .inr ⟨⟨xs,xs[i],q,by simp [hlt]⟩,Pv (i+1),fun σ' H' p'=>⟨xs.length - (i+1),by omega,rfl,hlt,p'⟩,fun x H' y=>?_⟩
  obtain⟨e,y⟩:=y
  subst e
  exact hs i x σ _ (y xs q) p
 ·have e:i=xs.length:=by omega
  subst e
  exact .inl ⟨⟨xs,q,Nat.le_refl _⟩,hd σ H p⟩
theorem wm {K:PySem.W.Frag} {a:Addr} {xs:List V} {g:TG} {tb:TS} {D:im} {σ:St} {H:Hp} (Pv:Nat->St->Hp->Prop) (h0:Pv 0 σ H) (hl:∀ i σ H,i≤xs.length->Pv i σ H->bS K H a xs)
  (hs:∀ i x σ H,xs[i]?=some x->Pv i σ H->g x σ H fun σ2 H2=>tb { D with nx:=Pv (i+1),ct:=Pv (i+1),bk:=D.nx } σ2 H2) (hd:∀ σ H,Pv xs.length σ H->D.nx σ H) :
  ∃ W:Nat->Nat->St->Hp->Prop,(∃ m,W 0 m σ H)/\∀ i m σ H,W i m σ H→
   ((AF K a).stop i H/\D.nx σ H)∨((AF K a).go i H/\∃ N:St->Hp->Prop,(∀ σ' H',N σ' H'->∃ m',m' < m/\W (i+1) m' σ' H')/\∀ x H',(AF K a).yld i H x H'->g x σ H' fun σ2 H2=>tb { D with nx:=N,ct:=N,bk:=D.nx } σ2 H2):=by
 refine⟨fun i m σ H=>m=xs.length - i/\i≤xs.length/\Pv i σ H,⟨xs.length,by simp,Nat.zero_le _,h0⟩,?_⟩
 rintro i m σ H ⟨rfl,hi,p⟩
 have q:=hl i σ H hi p
 by_cases hlt:i < xs.length
 ·refine .inr ⟨⟨xs,xs[i],q,by simp [hlt]⟩,Pv (i+1),fun σ' H' p'=>⟨xs.length - (i+1),by omega,rfl,hlt,p'⟩,fun x H' y=>?_⟩
  obtain⟨e,y⟩:=y
  subst e
  exact hs i x σ _ (y xs q) p
 ·have e:i=xs.length:=by omega
  subst e
  exact .inl ⟨⟨xs,q,Nat.le_refl _⟩,hd σ H p⟩
theorem cA {lo:Int} {n:Nat} {g:TG} {tb:TS} {D:im} {σ:St} {H:Hp} (Pv:Nat->St->Hp->Prop) (h0:Pv 0 σ H)
  (hs:∀ i σ H,i < n->Pv i σ H->g (.int (lo+i)) σ H fun σ2 H2=>tb { D with nx:=Pv (i+1),ct:=Pv (i+1),bk:=D.nx } σ2 H2) (hd:∀ σ H,Pv n σ H->D.nx σ H) :
  ∃ W:Nat->Nat->St->Hp->Prop,(∃ m,W 0 m σ H)/\∀ i m σ H,W i m σ H→
   ((xC lo n).stop i H/\D.nx σ H)∨((xC lo n).go i H/\∃ N:St->Hp->Prop,(∀ σ' H',N σ' H'->∃ m',m' < m/\W (i+1) m' σ' H')/\∀ x H',(xC lo n).yld i H x H'->g x σ H' fun σ2 H2=>tb { D with nx:=N,ct:=N,bk:=D.nx } σ2 H2):=by
 refine⟨fun i m σ H=>m=n - i/\i≤n/\Pv i σ H,⟨n,by simp,Nat.zero_le _,h0⟩,?_⟩
 rintro i m σ H ⟨rfl,hi,p⟩
 by_cases hlt:i < n
 ·refine .inr ⟨hlt,Pv (i+1),fun σ' H' p'=>⟨n - (i+1),by omega,rfl,hlt,p'⟩,fun x H' y=>?_⟩
  obtain⟨e,y⟩:=y
  subst e y
  exact hs i σ _ hlt p
 ·have e:i=n:=by omega
  subst e
  exact .inl ⟨Nat.le_refl _,hd σ H p⟩
end L2
namespace L2
open PySem PySem.Spec PyProof.Rows
abbrev R2:=V->V->Hp->VK->Prop
def eI (X:Cx) (f:Value->Value->Sem Value) (r:R2):Prop:=
 ∀ (pins:List (Addr×Obj)) (s:Shared) (σ:St) (H:Hp) (x y:V) (v u:Value) (Q:VK),Inv X pins σ H s->aO x v->aO y u->r x y H Q→
  wpAny (model X.prog X.w) X.A (f v u) (EP X pins σ Q) X.xe s
def CG (X:Cx) (f:Value->Sem Value) (r:V->Hp->VK->Prop):Prop:=
 ∀ (pins:List (Addr×Obj)) (s:Shared) (σ:St) (H:Hp) (x:V) (v:Value) (Q:VK),Inv X pins σ H s->aO x v->r x H Q→
  wpAny (model X.prog X.w) X.A (f v) (EP X pins σ Q) X.xe s
def cB (X:Cx) (f:Value) (r:List V->Hp->VK->Prop):Prop:=
 ∀ (pins:List (Addr×Obj)) (s:Shared) (σ:St) (H:Hp) (xs:List V) (us:List Value) (Q:VK),Inv X pins σ H s->aR xs us->r xs H Q→
  wpAny (model X.prog X.w) X.A (call f us) (EP X pins σ Q) X.xe s
def Fo (X:Cx) (r:V->Hp->(Bool->Hp->Prop)->Prop):Prop:=
 ∀ (pins:List (Addr×Obj)) (s:Shared) (σ:St) (H:Hp) (x:V) (v:Value) (Q:Bool->Hp->Prop),Inv X pins σ H s->aO x v->r x H Q→
  wpAny (model X.prog X.w) X.A (truthy v) (TP X pins σ Q) X.xe s
def uT (r:R2) (ta tb:TE):TE:=fun σ H Q=>ta σ H fun x H1=>tb σ H1 fun y H2=>r x y H2 Q
def DH (r:V->Hp->VK->Prop) (ta:TE):TE:=fun σ H Q=>ta σ H fun x H1=>r x H1 Q
def rI (C:Int->Int->Prop) (g:Int->Int->V):R2:=fun x y H Q=>∃ i j,x=.int i/\y=.int j/\C i j/\Q (g i j) H
def xi (g:Int->Int->V):R2:=fun x y H Q=>∃ i j,x=.int i/\y=.int j/\Q (g i j) H
def rU (g:Int->V):V->Hp->VK->Prop:=fun x H Q=>∃ i,x=.int i/\Q (g i) H
section
variable {X:Cx} {a b c:Expr} {ta tb tc:TE} {pos:Pos}
theorem Af (ha:PE X a ta) (hb:PE X b tb) {pins:List (Addr×Obj)} {s:Shared} {σ:St} {H:Hp} {R:V->V->Hp->Prop} (I:Inv X pins σ H s)
  (h:ta σ H fun x H1=>tb σ H1 fun y H2=>R x y H2) {Q:Value->Shared->Prop} {f:Value->Value->Sem Value}
  (hf:∀ v u s2 x y H2,Inv X pins σ H2 s2->aO x v->aO y u->R x y H2->wpAny (model X.prog X.w) X.A (f v u) Q X.xe s2) :
  wpAny (model X.prog X.w) X.A (eval a X.env) (fun v s₁=>wpAny (model X.prog X.w) X.A (eval b X.env) (fun u s₂=>wpAny (model X.prog X.w) X.A (f v u) Q X.xe s₂) X.xe s₁) X.xe s:=by
 refine bc (ha pins s σ H _ I h) fun v s1 ⟨x,H1,I1,r1,q1⟩=>?_
 refine bc (hb pins s1 σ H1 _ I1 q1) fun u s2 ⟨y,H2,I2,r2,q2⟩=>?_
 exact hf v u s2 x y H2 I2 r1 r2 q2
theorem Bv {op:Operator} {r:R2} (ho:eI X (binaryOp op) r) (ha:PE X a ta) (hb:PE X b tb):PE X (.BinOp a op b pos) (uT r ta tb):=by
 intro pins s σ H Q I h
 exact wpAny_BinOp (Af ha hb I h fun v u s2 x y H2 I2 rx ry q=>ho pins s2 σ H2 x y v u Q I2 rx ry q)
theorem Bu {op:UnaryOp} {r:V->Hp->VK->Prop} (ho:CG X (unaryOp op) r) (ha:PE X a ta):PE X (.UnaryOp op a pos) (DH r ta):=by
 intro pins s σ H Q I h
 exact UnaryOp_ (bc (ha pins s σ H _ I h) fun v s1 ⟨x,H1,I1,r1,q1⟩=>ho pins s1 σ H1 x v Q I1 r1 q1)
theorem Ay {f:Value->Value->Sem Value} {C:Int->Int->Prop} {g:Int->Int->Int}
  (rule:∀ (i j:Int) (t u:Tok) (s:Shared) (Q:Value->Shared->Prop) (E:Value->Shared->Prop),C i j->Q (.int (g i j) s.toks) { s with toks:=s.toks+1 }->wpAny (model X.prog X.w) X.A (f (.int i t) (.int j u)) Q E s) :
  eI X f (rI C fun i j=>.int (g i j)):=by
 intro pins s σ H x y v u Q I rx ry h
 obtain⟨i,j,rfl,rfl,hc,q⟩:=h
 obtain⟨t,rfl⟩:=rx
 obtain⟨t',rfl⟩:=ry
 exact rule i j t t' s _ _ hc ⟨.int (g i j),H,I.tok _,⟨_,rfl⟩,q⟩
theorem BC {f:Value->Value->Sem Value} {g:Int->Int->Int}
  (rule:∀ (i j:Int) (t u:Tok) (s:Shared) (Q:Value->Shared->Prop) (E:Value->Shared->Prop),Q (.int (g i j) s.toks) { s with toks:=s.toks+1 }->wpAny (model X.prog X.w) X.A (f (.int i t) (.int j u)) Q E s) :
  eI X f (xi fun i j=>.int (g i j)):=by
 intro pins s σ H x y v u Q I rx ry h
 obtain⟨i,j,rfl,rfl,q⟩:=h
 obtain⟨t,rfl⟩:=rx
 obtain⟨t',rfl⟩:=ry
 exact rule i j t t' s _ _ ⟨.int (g i j),H,I.tok _,⟨_,rfl⟩,q⟩
theorem vU {f:Value->Value->Sem Value} {g:Int->Int->Bool}
  (rule:∀ (i j:Int) (t u:Tok) (s:Shared) (Q:Value->Shared->Prop) (E:Value->Shared->Prop),Q (.bool (g i j)) s->wpAny (model X.prog X.w) X.A (f (.int i t) (.int j u)) Q E s) :
  eI X f (xi fun i j=>.bl (g i j)):=by
 intro pins s σ H x y v u Q I rx ry h
 obtain⟨i,j,rfl,rfl,q⟩:=h
 obtain⟨t,rfl⟩:=rx
 obtain⟨t',rfl⟩:=ry
 exact rule i j t t' s _ _ ⟨.bl (g i j),H,I,rfl,q⟩
def DD (i j:Int):Prop:=0 < j/\j < 1073741824
def EE (i j:Int):Prop:=j≠0/\j.natAbs < 1073741824
def DC (i j:Int):Prop:=0≤j/\j≤1000000/\i.natAbs < 2 ^ 64
def Av (i j:Int):Prop:=(-(2 ^ 64) < i/\i < 2 ^ 64)∨(-(2 ^ 64) < j/\j < 2 ^ 64)
theorem Av.ok {i j:Int} (h:Av i j):IntMulOk i j:=by
 rcases h with ⟨h1,h2⟩ | ⟨h1,h2⟩
 ·exact .of_left (intBits_le_64 h1 h2)
 ·exact .of_right (intBits_le_64 h1 h2)
theorem cj:eI X (binaryOp .Add) (xi fun i j=>.int (i+j)):=BC fun _ _ _ _ _ _ _ q=>add_int q
theorem cG:eI X (binaryOp .Sub) (xi fun i j=>.int (i - j)):=BC fun _ _ _ _ _ _ _ q=>sub_int q
theorem gJ:eI X (binaryOp .Mult) (rI Av fun i j=>.int (i * j)):=Ay fun _ _ _ _ _ _ _ hc q=>mul_int q hc.ok
theorem oK:eI X (binaryOp .FloorDiv) (rI DD fun i j=>.int (i / j)):=Ay fun i j _ _ _ _ _ hc q=>by
 have h1:(0:Int) < j:=hc.1
 have h2:j < 1073741824:=hc.2
 exact floordiv_int (by omega) (by rw [Int.fdiv_eq_ediv_of_nonneg i (by omega)];exact q) (.inl (PyProof.noPylong_small (by omega)))
theorem eA:eI X (binaryOp .Mod) (rI (fun _ j=>0 < j) fun i j=>.int (i % j)):=Ay fun i j _ _ _ _ _ hc q=>by
 have h1:(0:Int) < j:=hc
 exact mod_int' (by omega) (by rw [Int.fmod_eq_emod_of_nonneg i (by omega)];exact q)
theorem y3:eI X (binaryOp .Pow) (rI DC fun i j=>.int (i ^ j.toNat)):=Ay fun _ _ _ _ _ _ _ hc q=>pow_int_small hc.1 hc.2.1 hc.2.2 q
theorem EK {f:Value->Sem Value} {g:Int->Int}
  (rule:∀ (i:Int) (t:Tok) (s:Shared) (Q:Value->Shared->Prop) (E:Value->Shared->Prop),Q (.int (g i) s.toks) { s with toks:=s.toks+1 }->wpAny (model X.prog X.w) X.A (f (.int i t)) Q E s) :
  CG X f (rU fun i=>.int (g i)):=by
 intro pins s σ H x v Q I rx h
 obtain⟨i,rfl,q⟩:=h
 obtain⟨t,rfl⟩:=rx
 exact rule i t s _ _ ⟨.int (g i),H,I.tok _,⟨_,rfl⟩,q⟩
theorem iD:CG X (unaryOp .USub) (rU fun i=>.int (-i)):=EK fun _ _ _ _ _ q=>neg_int q
end
def A9:V->V->Bool
 | .non,.non=>true | .non,.int _=>true | .int _,.non=>true | .non,.bl _=>true | .bl _,.non=>true | .non,.str _=>true | .str _,.non=>true
 | .int _,.int _=>true | .bl _,.bl _=>true | .str _,.str _=>true | .byt _,.byt _=>true
 | .int _,.str _=>true | .str _,.int _=>true | .bl _,.str _=>true | .str _,.bl _=>true
 | _,_=>false
def Fe:R2:=fun x y H Q=>A9 x y=true/\Q (.bl (decide (x=y))) H
def E7:R2:=fun x y H Q=>A9 x y=true/\Q (.bl (!decide (x=y))) H
theorem oW {i j:Int}:decide (V.int i=V.int j)=(i == j):=by
 rw [Bool.eq_iff_iff]
 simp
theorem uy {i j:Bool}:decide (V.bl i=V.bl j)=(i == j):=by
 rw [Bool.eq_iff_iff]
 simp
theorem oU {i j:Str}:decide (V.str i=V.str j)=(i == j):=by
 rw [Bool.eq_iff_iff]
 simp
theorem oX {i j:Array UInt8}:decide (V.byt i=V.byt j)=(i.toList == j.toList):=by
 rw [Bool.eq_iff_iff]
 cases i
 cases j
 simp
section
variable {X:Cx} {a b c:Expr} {ta tb tc:TE} {pos:Pos}
theorem aY {pins:List (Addr×Obj)} {σ:St} {H:Hp} {s:Shared} {Q:VK} {k k':Bool} (I:Inv X pins σ H s) (q:Q (.bl k) H) (e:k=k'):EP X pins σ Q (.bool k') s:=by
 subst e
 exact⟨.bl k,H,I,rfl,q⟩
theorem gZ:eI X (compareOp .Eq) Fe:=by
 intro pins s σ H x y v u Q I rx ry h
 obtain⟨hs,q⟩:=h
 cases x with
 | non=>
  cases rx
  cases y with
  | non=>cases ry;exact PySem.EqNone.eq_none_none (aY I q (by simp))
  | bl j=>cases ry;exact PySem.EqNone.eq_none_bool (aY I q (by simp))
  | int j=>obtain⟨t',rfl⟩:=ry;exact PySem.EqNone.eq_none_int (aY I q (by simp))
  | str j=>obtain⟨t',rfl⟩:=ry;exact PySem.EqNone.eq_none_str (aY I q (by simp))
  | _=>exact absurd (show false=true from hs) Bool.false_ne_true
 | bl i=>
  cases rx
  cases y with
  | non=>cases ry;exact PySem.EqNone.eq_bool_none (aY I q (by simp))
  | bl j=>cases ry;exact eq_bool (aY I q uy)
  | str j=>obtain⟨t',rfl⟩:=ry;exact PySem.EqMixed.eq_bool_str (aY I q (by simp))
  | _=>exact absurd (show false=true from hs) Bool.false_ne_true
 | int i=>
  obtain⟨t,rfl⟩:=rx
  cases y with
  | non=>cases ry;exact PySem.EqNone.eq_int_none (aY I q (by simp))
  | int j=>obtain⟨t',rfl⟩:=ry;exact eq_int (aY I q oW)
  | str j=>obtain⟨t',rfl⟩:=ry;exact PySem.EqMixed.eq_int_str (aY I q (by simp))
  | _=>exact absurd (show false=true from hs) Bool.false_ne_true
 | str i=>
  obtain⟨t,rfl⟩:=rx
  cases y with
  | non=>cases ry;exact PySem.EqNone.eq_str_none (aY I q (by simp))
  | bl j=>cases ry;exact PySem.EqMixed.eq_str_bool (aY I q (by simp))
  | int j=>obtain⟨t',rfl⟩:=ry;exact PySem.EqMixed.eq_str_int (aY I q (by simp))
  | str j=>obtain⟨t',rfl⟩:=ry;exact eq_str (aY I q oU)
  | _=>exact absurd (show false=true from hs) Bool.false_ne_true
 | byt i=>
  obtain⟨t,rfl⟩:=rx
  cases y with
  | byt j=>obtain⟨t',rfl⟩:=ry;exact PySem.W.eq_bytes (aY I q oX)
  | _=>exact absurd (show false=true from hs) Bool.false_ne_true
 | _=>cases y <;> exact absurd (show false=true from hs) Bool.false_ne_true
theorem tE:eI X (compareOp .NotEq) E7:=by
 intro pins s σ H x y v u Q I rx ry h
 obtain⟨hs,q⟩:=h
 cases x with
 | non=>
  cases rx
  cases y with
  | non=>cases ry;exact PySem.EqNone.ne_none_none (aY I q (by simp))
  | bl j=>cases ry;exact PySem.EqNone.ne_none_bool (aY I q (by simp))
  | int j=>obtain⟨t',rfl⟩:=ry;exact PySem.EqNone.ne_none_int (aY I q (by simp))
  | str j=>obtain⟨t',rfl⟩:=ry;exact PySem.EqNone.ne_none_str (aY I q (by simp))
  | _=>exact absurd (show false=true from hs) Bool.false_ne_true
 | bl i=>
  cases rx
  cases y with
  | non=>cases ry;exact PySem.EqNone.ne_bool_none (aY I q (by simp))
  | bl j=>cases ry;exact ne_bool (aY I q (congrArg not uy))
  | str j=>obtain⟨t',rfl⟩:=ry;exact PySem.EqMixed.ne_bool_str (aY I q (by simp))
  | _=>exact absurd (show false=true from hs) Bool.false_ne_true
 | int i=>
  obtain⟨t,rfl⟩:=rx
  cases y with
  | non=>cases ry;exact PySem.EqNone.ne_int_none (aY I q (by simp))
  | int j=>obtain⟨t',rfl⟩:=ry;exact ne_int (aY I q (congrArg not oW))
  | str j=>obtain⟨t',rfl⟩:=ry;exact PySem.EqMixed.ne_int_str (aY I q (by simp))
  | _=>exact absurd (show false=true from hs) Bool.false_ne_true
 | str i=>
  obtain⟨t,rfl⟩:=rx
  cases y with
  | non=>cases ry;exact PySem.EqNone.ne_str_none (aY I q (by simp))
  | bl j=>cases ry;exact PySem.EqMixed.ne_str_bool (aY I q (by simp))
  | int j=>obtain⟨t',rfl⟩:=ry;exact PySem.EqMixed.ne_str_int (aY I q (by simp))
  | str j=>obtain⟨t',rfl⟩:=ry;exact ne_str (aY I q (congrArg not oU))
  | _=>exact absurd (show false=true from hs) Bool.false_ne_true
 | byt i=>
  obtain⟨t,rfl⟩:=rx
  cases y with
  | byt j=>obtain⟨t',rfl⟩:=ry;exact PySem.W.ne_bytes (aY I q (congrArg not oX))
  | _=>exact absurd (show false=true from hs) Bool.false_ne_true
 | _=>cases y <;> exact absurd (show false=true from hs) Bool.false_ne_true
theorem jJ:eI X (compareOp .Lt) (xi fun i j=>.bl (decide (i < j))):=vU fun _ _ _ _ _ _ _ q=>lt_int q
theorem oJ:eI X (compareOp .LtE) (xi fun i j=>.bl (decide (i≤j))):=vU fun _ _ _ _ _ _ _ q=>le_int q
theorem gY:eI X (compareOp .Gt) (xi fun i j=>.bl (decide (j < i))):=vU fun _ _ _ _ _ _ _ q=>gt_int q
theorem tF:eI X (compareOp .GtE) (xi fun i j=>.bl (decide (j≤i))):=vU fun _ _ _ _ _ _ _ q=>ge_int q
theorem vT:eI X (compareOp .IsNot) (fun x y H Q=>y=.non/\Q (.bl (!decide (x=.non))) H):=by
 intro pins s σ H x y v u Q I rx ry h
 obtain⟨rfl,q⟩:=h
 cases ry
 refine isnot_none_gen (aY I q ?_)
 cases x <;> first
  | (cases rx;rfl)
  | (obtain⟨t,rfl⟩:=rx;rfl)
def Eg:HO->Bool
 | .lst _=>true
 | .ins _ _ _=>true
 | _=>false
theorem aV (b:Expr) {op:CmpOp} (h:op≠.In:=by decide) (h2:op≠.NotIn:=by decide):behindInMarks op b=false:=by
 have e1:(op == CmpOp.In)=false:=by cases op <;> first | rfl | exact absurd rfl h
 have e2:(op == CmpOp.NotIn)=false:=by cases op <;> first | rfl | exact absurd rfl h2
 cases b <;> simp [behindInMarks,e1,e2]
theorem vP {op:CmpOp} {r:R2} (ho:eI X (compareOp op) r) (ha:PE X a ta) (hb:PE X b tb) (hm:behindInMarks op b=false):PE X (.Compare a [op] [b] pos) (uT r ta tb):=by
 intro pins s σ H Q I h
 exact wpAny_Compare1 (Af ha hb I h fun v u s2 x y H2 I2 rx ry q=>ho pins s2 σ H2 x y v u Q I2 rx ry q) hm
def jD (t:TE):TT:=fun σ H Q=>t σ H fun x H'=>∃ k,x=.bl k/\Q k H'
theorem vn {op:CmpOp} {r:R2} (ho:eI X (compareOp op) r) (ha:PE X a ta) (hb:PE X b tb) (hm:behindInMarks op b=false):PT X (.Compare a [op] [b] pos) (jD (uT r ta tb)):=by
 intro pins s σ H Q I h
 refine wpAny_isTrue_Compare1 (bc (ha pins s σ H _ I h) fun v s1 ⟨x,H1,I1,r1,q1⟩=>bc (hb pins s1 σ H1 _ I1 q1) fun u s2 ⟨y,H2,I2,r2,q2⟩=>
  bc (ho pins s2 σ H2 x y v u _ I2 r1 r2 q2) fun c s3 ⟨z,H3,I3,r3,k,e,q3⟩=>?_) hm
 subst e
 cases r3
 exact wpAny_truthy_bool ⟨H3,I3,q3⟩
def j9 (r r':R2) (ta tb tc:TE):TE:=fun σ H Q=>ta σ H fun x H1=>tb σ H1 fun y H2=>r x y H2 fun z H3=>∃ k,z=.bl k∧
 (if k=true then tc σ H3 fun w' H4=>r' y w' H4 Q else Q (.bl false) H3)
theorem tw {op op':CmpOp} {r r':R2} (ho:eI X (compareOp op) r) (ho':eI X (compareOp op') r') (ha:PE X a ta) (hb:PE X b tb) (hc:PE X c tc)
  (hm:lastMarks [op,op'] [b,c]=false:=by with_unfolding_all rfl):PE X (.Compare a [op,op'] [b,c] pos) (j9 r r' ta tb tc):=by
 intro pins s σ H Q I h
 refine Compare_chain (bc (ha pins s σ H _ I h) fun v s1 ⟨x,H1,I1,r1,q1⟩=>chain_link (bc (hb pins s1 σ H1 _ I1 q1) fun u s2 ⟨y,H2,I2,r2,q2⟩=>
  bc (ho pins s2 σ H2 x y v u _ I2 r1 r2 q2) fun d s3 ⟨z,H3,I3,r3,k,e,q3⟩=>?_)) hm
 subst e
 cases r3
 refine wpAny_truthy_bool ?_
 cases k with
 | false=>exact ite_ff ⟨.bl false,H3,I3,rfl,q3⟩
 | true=>exact ite_tt (chain_last (bc (hc pins s3 σ H3 _ I3 q3) fun w' s4 ⟨z',H4,I4,r4,q4⟩=>ho' pins s4 σ H4 y z' u w' Q I4 r2 r4 q4))
theorem sK {op op':CmpOp} {r r':R2} (ho:eI X (compareOp op) r) (ho':eI X (compareOp op') r') (ha:PE X a ta) (hb:PE X b tb) (hc:PE X c tc)
  (hm:lastMarks [op,op'] [b,c]=false:=by with_unfolding_all rfl):PT X (.Compare a [op,op'] [b,c] pos) (jD (j9 r r' ta tb tc)):=by
 intro pins s σ H Q I h
 refine isTrue_chain (bc (ha pins s σ H _ I h) fun v s1 ⟨x,H1,I1,r1,q1⟩=>test_link (bc (hb pins s1 σ H1 _ I1 q1) fun u s2 ⟨y,H2,I2,r2,q2⟩=>
  bc (ho pins s2 σ H2 x y v u _ I2 r1 r2 q2) fun d s3 ⟨z,H3,I3,r3,k,e,q3⟩=>?_)) hm
 subst e
 cases r3
 refine wpAny_truthy_bool ?_
 cases k with
 | false=>
  obtain⟨k',e',q'⟩:=q3
  cases e'
  exact ite_ff ⟨H3,I3,q'⟩
 | true=>
  refine ite_tt (test_last (bc (hc pins s3 σ H3 _ I3 q3) fun w' s4 ⟨z',H4,I4,r4,q4⟩=>bc (ho' pins s4 σ H4 y z' u w' _ I4 r2 r4 q4) fun d' s5 ⟨z2,H5,I5,r5,k2,e2,q5⟩=>?_))
  subst e2
  cases r5
  exact wpAny_truthy_bool ⟨H5,I5,q5⟩
def Fn (K:PySem.W.Frag) (x:V) (H:Hp) (k:Bool):Prop:=
 match x with
 | .non=>k=false
 | .bl b=>k=b
 | .int i=>k=(i != 0)
 | .str y=>y.length≤sizeLine/\k=((y.length:Int) != 0)
 | .byt y=>y.size≤sizeLine/\k=((y.size:Int) != 0)
 | .ref p=>(∃ xs,aF K H p xs/\k=!xs.isEmpty)∨(∃ xs,bS K H p xs/\k=!xs.isEmpty)∨∃ kvs,H p=some (.dK kvs)/\k=!kvs.isEmpty
 | _=>False
theorem iY:(sizeLine:Nat) < 2 ^ 63:=by rw [sizeLine_eq];decide
def Ce (b:Expr):Prop:=∀ o i,subscripted b false o i=operate [o,i] (getItem o i)
theorem eJ {x:V} {us:List Value} (r:aR [x] us):∃ u,us=[u]/\aO x u:=by
 cases r with
 | cons r1 r2=>cases r2;exact⟨_,rfl,r1⟩
theorem AN {x y:V} {us:List Value} (r:aR [x,y] us):∃ u w',us=[u,w']/\aO x u/\aO y w':=by
 cases r with
 | cons r1 r2=>
  cases r2 with
  | cons r3 r4=>cases r4;exact⟨_,_,rfl,r1,r3⟩
theorem je:cB X (.builtin "abs") (fun xs H Q=>∃ i,xs=[.int i]/\Q (.int (if i < 0 then -i else i)) H):=by
 intro pins s σ H xs us Q I r h
 obtain⟨i,rfl,q⟩:=h
 obtain⟨u,rfl,t,rfl⟩:=eJ r
 exact call_abs_int fun u tk=>⟨.int (if i < 0 then -i else i),H,I.tok _,⟨_,rfl⟩,q⟩
theorem jV (hc:X.calm=true):cB X (.builtin "min") (fun xs H Q=>∃ i j,xs=[.int i,.int j]/\Q (.int (if j < i then j else i)) H):=by
 intro pins s σ H xs us Q I r h
 obtain⟨i,j,rfl,q⟩:=h
 obtain⟨u,w',rfl,⟨t,rfl⟩,⟨t',rfl⟩⟩:=AN r
 refine min_two_ints (I.ok.hd hc) fun h' tk k=>⟨_,H,I.kept k,?_,q⟩
 by_cases hj:j < i
 ·rw [if_pos hj,if_pos hj];exact⟨_,rfl⟩
 ·rw [if_neg hj,if_neg hj];exact⟨_,rfl⟩
def Fu (K:PySem.W.Frag) (x:V) (H:Hp) (n:Nat):Prop:=
 match x with
 | .str y=>y.length≤sizeLine/\n=y.length
 | .byt y=>y.size≤sizeLine/\n=y.size
 | .ref p=>(∃ xs,aF K H p xs/\n=xs.length)∨∃ xs,bS K H p xs/\n=xs.length
 | _=>False
end
end L2
namespace L2
open PySem PySem.Spec PyProof.Rows
structure og (h:Heap) (x dx C:Addr) (mA:Str->Option Value):Prop where
 obj:h.get? x=some (PySem.W.instObj C dx)
 ns:h.Ns1 dx mA
 ne:dx≠x
theorem pY {h:Heap} {dx:Addr} {mA:Str->Option Value} (n:h.Ns1 dx mA):∃ od,h.get? dx=some od/\∀ name,PySem.W.lookIn name od=some (mA name):=by
 obtain⟨o,es,ep,ho,hd,hk,_,hm⟩:=n
 refine⟨o,ho,fun name=>?_⟩
 have e:=hm name
 unfold nsFind findBy at e
 rw [← Array.find?_toList] at e
 unfold PySem.W.lookIn
 rw [hd]
 dsimp only
 split
 ·rename_i y q
  rw [q] at e
  exact congrArg some e
 ·rename_i q
  rw [q] at e
  have a:es.toList.any (·.refKey)=false:=by
   rw [List.any_eq_false]
   intro y hy
   obtain⟨z,t,hkey⟩:=hk y (Array.mem_toList_iff.mp hy)
   simp [DictEntry.refKey,hkey]
  have a':¬ es.toList.any (·.refKey)=true:=by rw [a];exact Bool.false_ne_true
  rw [if_neg a']
  exact congrArg some e
theorem og.look {h:Heap} {x dx C:Addr} {mA:Str->Option Value} (I:og h x dx C mA):∃ od,PySem.W.InstAt h x (PySem.W.instObj C dx) C (some od)/\∀ name,PySem.W.lookIn name od=some (mA name):=
 let ⟨od,ho,hl⟩:=pY I.ns
 ⟨od,⟨I.obj,rfl,rfl,ho⟩,hl⟩
section
variable {prog:Program} {w:World} {A:Around} {E:Value->Shared->Prop} {s:Shared} {K:PySem.W.Frag} {x dx C f:Addr} {mA:Str->Option Value} {name:Str} {v:Value}
theorem we {expr:Bool} {Q:Value->Shared->Prop} (X:K.In s.heap) (I:og s.heap x dx C mA) (hg:PySem.W.plainGet K C name=true) (hh:PySem.W.hasDictIn K C=true)
  (ha:PySem.W.findIn K (.ref C) name=some none) (hv:mA name=some v) (hv':PySem.W.handedIn v=true) (h:Q v { s with toks:=s.toks+1 }) :
  wpAny (model prog w) A (getAttr (.ref x) name expr) Q E s:=by
 obtain⟨od,J,hl⟩:=I.look
 exact PySem.W.get_value X J (PySem.W.plainGet_of hg).1 (PySem.W.findObj_own hh ha rfl (by rw [hl,hv])) hv' h
theorem ug {pl:Sem Bool} {Q:Value×List Value->Shared->Prop} (X:K.In s.heap) (I:og s.heap x dx C mA) (hg:PySem.W.plainGet K C name=true)
  (hf:PySem.W.findIn K (.ref C) name=some (some (.ref f))) (ht:PySem.W.isFn K (.ref f)=true) (hv:mA name=none) (h:Q (.ref f,[.ref x]) s) :
  wpAny (model prog w) A (getMethod (.ref x) name pl) Q E s:=by
 obtain⟨od,J,hl⟩:=I.look
 exact PySem.W.method_fn X J (PySem.W.plainGet_of hg).1 (PySem.W.plainGet_of hg).2 hf (beq_iff_eq.mp ht) (by show (PySem.W.lookIn name od).map (·.isSome)=some false;rw [hl,hv];rfl) h
theorem u7 {ns:List Str} {Q:Unit->Shared->Prop} (X:K.In s.heap) (I:og s.heap x dx C mA)
  (hs:PySem.W.findIn K (.ref C) "__setattr__" = some (some (.builtin "object.__setattr__"))) (hp:PySem.W.plainOver K C=true) (ht:PySem.W.takerIn K C name=some none) (hh:PySem.W.hasDictIn K C=true)
  (hw:PySem.Within mA ns) (hsz:ns.length≤sizeLine)
  (h:∀ h',og h' x dx C (fun y=>if y=name then some v else mA y)->Heap.SameBut dx s.heap h'->Q () { s with heap:=h',toks:=s.toks+2 }) :
  wpAny (model prog w) A (setAttr (.ref x) name v) Q E s:=by
 obtain⟨od,J,hl⟩:=I.look
 refine PySem.W.set_plain X J hs (PySem.W.osa_open (s:={ s with toks:=s.toks+1 }) (r:=none) X J hp ht fun b=>?_)
 obtain⟨cd,hc,hd'⟩:=PySem.W.any_some hh
 have hx:s.heap.get? x=some ⟨.ref C,some dx,.plain,#[]⟩:=I.obj
 refine wpAny_bind (wpAny_pure (wpAny_bind (wpAny_bind (wpAny_loadPart hx (wpAny_bind (PySem.W.Looks.here (s:={ s with toks:=s.toks+1 }) (PySem.W.looks_clsIn X hc) ?_))))))
 rw [hd']
 refine wpAny_pure (a:=some dx) (wpAny_bind (wpAny_pure (wpAny_bind ?_)))
 refine wpAny_nsSet1 (s:={ s with toks:=s.toks+1 }) I.ns fun h' hn2 hs2=>?_
 obtain⟨oD,esD,epD,hoD,hdD,hcD⟩:=hn2.count (PySem.Within.cons name v hw)
 refine wpAny_bind (wpAny_lookBehind hoD (by rw [hdD];exact pastItsLine_dict (Nat.le_trans hcD (by rw [List.length_cons];omega))) ?_)
 exact wpAny_pure (h _ ⟨(hs2.2 _ (Ne.symm I.ne)).trans I.obj,hn2,I.ne⟩ hs2)
theorem tS {R:Result->Shared->Prop} {vs:List Value} {kw:List (Str×Value)} (X:K.In s.heap) (hm:PySem.W.makesIn K C=true)
  (hi:PySem.W.findIn K (.ref C) "__init__" = some (some (.ref f))) (hf:PySem.W.typeIn K (.ref f)=some (.type "function"))
  (h:codeAny (model prog w) (A.under (.builtin "type.__call__" ⟨.ref C :: vs,kw⟩)) (.call (.ref f) ⟨.ref (s.heap.objs.size+1) :: vs,kw⟩) (PySem.W.InitBack (s.heap.objs.size+1) R)
   { s with heap:=(s.heap.push PySem.W.emptyDict).push (PySem.W.instObj C s.heap.objs.size) }) :
  codeAny (model prog w) A (.call (.ref C) ⟨vs,kw⟩) R s:=by
 obtain⟨hh,g,d,t,os⟩:=s
 exact PySem.W.make_core (PySem.W.makes_of X hm) (PySem.W.looks_findIn X hi) (fun self=>PySem.W.bind_fn X self hf) (.inl rfl) h
end
def dt (f:Str) (v:V):List (Str×V)->List (Str×V)
 | []=>[(f,v)]
 | (g,x) :: r=>if g=f then (g,v) :: r else (g,x) :: dt f v r
theorem g7 (f g:Str) (v:V):∀ fs:List (Str×V),(dt f v fs).lookup g=if g=f then some v else fs.lookup g
 | []=>by
  show List.lookup g [(f,v)]=_
  by_cases h:g=f
  ·have hb:(g == f)=true:=beq_iff_eq.mpr h
   simp only [List.lookup,hb,if_pos h]
  ·have hb:(g == f)=false:=beq_eq_false_iff_ne.mpr h
   simp only [List.lookup,hb,if_neg h]
 | (k,x) :: r=>by
  have ih:=g7 f g v r
  rw [show dt f v ((k,x) :: r)=(if k=f then (k,v) :: r else (k,x) :: dt f v r) from rfl]
  by_cases hk:k=f
  ·rw [if_pos hk]
   by_cases h:g=k
   ·have hb:(g == k)=true:=beq_iff_eq.mpr h
    simp only [List.lookup,hb,if_pos (h.trans hk)]
   ·have hb:(g == k)=false:=beq_eq_false_iff_ne.mpr h
    simp only [List.lookup,hb,if_neg (fun e:g=f=>h (e.trans hk.symm))]
  ·rw [if_neg hk]
   by_cases h:g=k
   ·have hb:(g == k)=true:=beq_iff_eq.mpr h
    simp only [List.lookup,hb,if_neg (fun e:g=f=>hk (h.symm.trans e))]
   ·have hb:(g == k)=false:=beq_eq_false_iff_ne.mpr h
    simp only [List.lookup,hb]
    exact ih
theorem gN (f:Str) (v:V):∀ fs:List (Str×V),f∈(dt f v fs).map (·.1)/\∀ g,g∈fs.map (·.1)->g∈(dt f v fs).map (·.1)
 | []=>⟨by simp [dt],fun g h=>by simp at h⟩
 | (k,x) :: r=>by
  obtain⟨i1,i2⟩:=gN f v r
  rw [show dt f v ((k,x) :: r)=(if k=f then (k,v) :: r else (k,x) :: dt f v r) from rfl]
  by_cases hk:k=f
  ·rw [if_pos hk]
   subst hk
   exact⟨by simp,fun g h=>by simpa using h⟩
  ·rw [if_neg hk]
   refine⟨?_,fun g h=>?_⟩
   ·rw [List.map_cons]
    exact List.mem_cons_of_mem _ i1
   ·rw [List.map_cons] at h ⊢
    rcases List.mem_cons.mp h with e | e
    ·exact List.mem_cons.mpr (.inl e)
    ·exact List.mem_cons_of_mem _ (i2 g e)
theorem g9 (f:Str) (v:V):∀ fs:List (Str×V),(dt f v fs).length≤fs.length+1
 | []=>by simp [dt]
 | (k,x) :: r=>by
  have ih:=g9 f v r
  rw [show dt f v ((k,x) :: r)=(if k=f then (k,v) :: r else (k,x) :: dt f v r) from rfl]
  by_cases hk:k=f
  ·rw [if_pos hk,List.length_cons,List.length_cons];omega
  ·rw [if_neg hk,List.length_cons,List.length_cons];omega
theorem eE.some_of {v:V} {o:Option Value} (r:eE (some v) o):∃ u,o=some u/\aO v u:=by
 cases o with
 | none=>exact (show False from r).elim
 | some u=>exact⟨u,rfl,r⟩
theorem eE.none_of {o:Option Value} (r:eE none o):o=none:=by
 cases o with
 | none=>rfl
 | some u=>exact (show False from r).elim
theorem qa {v:V} {u:Value} (r:aO v u):PySem.W.handedIn u=true:=by
 cases v with
 | non=>cases (show u=Value.none from r);rfl
 | bl b=>cases (show u=Value.bool b from r);rfl
 | int i=>obtain⟨t,e⟩:=(show ∃ t,u=Value.int i t from r);cases e;rfl
 | str x=>obtain⟨t,e⟩:=(show ∃ t,u=Value.str x t from r);cases e;rfl
 | byt b=>obtain⟨t,e⟩:=(show ∃ t,u=Value.bytes b t from r);cases e;rfl
 | flt b=>obtain⟨t,e⟩:=(show ∃ t,u=Value.float b t from r);cases e;rfl
 | ref a=>cases (show u=Value.ref a from r);rfl
 | ty n=>cases (show u=Value.type n from r);rfl
section
variable {P:Program} {w:World} {H H':Hp} {h h':Heap} {a C dx:Addr} {fs fs':List (Str×V)}
theorem kL (hok:fN P w H h) (e:H a=some (.ins C dx fs)):∃ mA,og h a dx C mA/\(∀ f,eE (fs.lookup f) (mA f))/\PySem.Within mA (fs.map (·.1))/\fs.length≤1000/\H dx=some (.own a):=by
 obtain⟨d,z,ne,ob,mA,n,r,q⟩:=(show bf P w H h a (.ins C dx fs) from hok a _ e)
 exact⟨mA,⟨ob,n,ne⟩,r,q,z,d⟩
end
structure oi (K:PySem.W.Frag) (C:Addr):Prop where
 pg:PySem.W.plainGet K C Str.empty=true
 hd:PySem.W.hasDictIn K C=true
 po:PySem.W.plainOver K C=true
 sa:PySem.W.findIn K (.ref C) "__setattr__" = some (some (.builtin "object.__setattr__"))
theorem oi.get {K:PySem.W.Frag} {C:Addr} (c:oi K C) (f:Str):PySem.W.plainGet K C f=true:=c.pg
def cv (K:PySem.W.Frag) (C:Addr) (f:Str):Prop:=PySem.W.findIn K (.ref C) f=some none
theorem cv.taker {K:PySem.W.Frag} {C:Addr} {f:Str} (n:cv K C f):PySem.W.takerIn K C f=some none:=by
 unfold PySem.W.takerIn
 rw [show PySem.W.findIn K (.ref C) f=some none from n]
 rfl
structure FG (K:PySem.W.Frag) (C:Addr) (f:Str) (v:V) (u:Value):Prop where
 at_:PySem.W.findIn K (.ref C) f=some (some u)
 rel:aO v u
 get:PySem.W.specialIn K u "__get__" = some none
 cp:PySem.W.copiedNames.contains f=false
structure fY (K:PySem.W.Frag) (C:Addr) (m:Str) (f:Addr):Prop where
 at_:PySem.W.findIn K (.ref C) m=some (some (.ref f))
 fn:PySem.W.isFn K (.ref f)=true
 kp:PySem.W.keepIn K (.ref f)=true
section
variable {X:Cx} {pins:List (Addr×Obj)} {σ:St} {H:Hp} {s:Shared} {a C dx:Addr} {fs:List (Str×V)} {f:Str} {v:V} {A:Around} {E:Value->Shared->Prop}
theorem nN {b:Bool} {Q:Value->Shared->Prop} (I:Inv X pins σ H s) (e:H a=some (.ins C dx fs)) (c:oi X.K C) (n:cv X.K C f) (l:fs.lookup f=some v)
  (h:∀ u s',Inv X pins σ H s'->aO v u->Q u s'):wpAny (model X.prog X.w) A (getAttr (.ref a) f b) Q E s:=by
 obtain⟨mA,O,r,_,_,_⟩:=kL I.hok e
 obtain⟨u,hu,ru⟩:=eE.some_of (v:=v) (o:=mA f) (by rw [← l];exact r f)
 exact we I.kIn O (c.get f) c.hd n hu (qa ru) (h u _ (I.tok _) ru)
theorem i5 {m:Str} {g:Addr} {pl:Sem Bool} {Q:Value×List Value->Shared->Prop} (I:Inv X pins σ H s) (e:H a=some (.ins C dx fs)) (c:oi X.K C) (k:fY X.K C m g) (l:fs.lookup m=none)
  (h:Q (.ref g,[.ref a]) s):wpAny (model X.prog X.w) A (getMethod (.ref a) m pl) Q E s:=by
 obtain⟨mA,O,r,_,_,_⟩:=kL I.hok e
 have hn:mA m=none:=eE.none_of (by rw [← l];exact r m)
 exact ug I.kIn O (c.get m) k.at_ k.fn hn h
theorem mT {y:V} {u:Value} {Q:Unit->Shared->Prop} (I:Inv X pins σ H s) (e:H a=some (.ins C dx fs)) (c:oi X.K C) (n:cv X.K C f) (hl:fs.length < 1000) (ry:aO y u)
  (h:∀ s',Inv X pins σ (ax H a (.ins C dx (dt f y fs))) s'->Q () s'):wpAny (model X.prog X.w) A (setAttr (.ref a) f u) Q E s:=by
 obtain⟨mA,O,r,wi,_,ho⟩:=kL I.hok e
 have hz:(fs.map (·.1)).length≤sizeLine:=by rw [List.length_map,sizeLine_eq];omega
 refine u7 I.kIn O c.sa c.po n.taker c.hd wi hz fun h' O' sb=>h _ ?_
 have hd:∃ o,h'.get? dx=some o:=let ⟨o,_,_,e',_⟩:=O'.ns;⟨o,e'⟩
 refine I.write (x:=a) (e:=dx) (by rw [e];exact True.intro) (.inr ho) (fun b q hb z=>(sb.2 b hb).trans z) hd ?_
 refine⟨by rw [aj O.ne];exact ho,?_,O.ne,O'.obj,_,O'.ns,fun g=>?_,fun g hg=>?_⟩
 ·have:=g9 f y fs;omega
 ·show eE ((dt f y fs).lookup g) (if g=f then some u else mA g)
  rw [g7]
  by_cases q:g=f
  ·rw [if_pos q,if_pos q];exact ry
  ·rw [if_neg q,if_neg q];exact r g
 ·by_cases q:g=f
  ·rw [q];exact (gN f y fs).1
  ·refine (gN f y fs).2 g (wi g fun z=>hg ?_)
   show (if g=f then some u else mA g)=none
   rw [if_neg q];exact z
theorem Inv.made (I:Inv X pins σ H s):Inv X pins σ (ax (ax H s.heap.objs.size (.own (s.heap.objs.size+1))) (s.heap.objs.size+1) (.ins C s.heap.objs.size []))
  { s with heap:=(s.heap.push PySem.W.emptyDict).push (PySem.W.instObj C s.heap.objs.size) }:=by
 have e1:(s.heap.push PySem.W.emptyDict).get? s.heap.objs.size=some PySem.W.emptyDict:=Heap.get?_push_size s.heap rfl
 have e2:((s.heap.push PySem.W.emptyDict).push (PySem.W.instObj C s.heap.objs.size)).get? (s.heap.objs.size+1)=some (PySem.W.instObj C s.heap.objs.size):=by
  have:=Heap.get?_push_size (s.heap.push PySem.W.emptyDict) (o:=PySem.W.instObj C s.heap.objs.size) rfl
  rwa [Heap.size_push] at this
 have e3:(s.heap.push PySem.W.emptyDict).Ns s.heap.objs.size (fun _=>none):=⟨PySem.W.emptyDict,#[],_,e1,rfl,(fun e he=>absurd he (by simp)),fun _=>rfl⟩
 have I1:=I.laid (a:=s.heap.objs.size) (o:=.own (s.heap.objs.size+1)) (h':=s.heap.push PySem.W.emptyDict) (t':=s.toks) (fun b u q=>Heap.get?_push_of_some _ q) (Nat.le_refl _) ⟨_,e1⟩
 refine I1.laid (a:=s.heap.objs.size+1) (o:=.ins C s.heap.objs.size []) (t':=s.toks) (fun b u q=>Heap.get?_push_of_some _ q) (Nat.le_of_eq (Heap.size_push _ _)) ?_
 have ne:s.heap.objs.size≠s.heap.objs.size+1:=Nat.ne_of_lt (Nat.lt_succ_self _)
 refine⟨by rw [aj ne,ae],Nat.zero_le _,ne,e2,fun _=>none,(Heap.Ns1.of_empty e3).at fun o q=>Heap.get?_push_of_some _ q,fun _=>True.intro,fun y hy=>absurd rfl hy⟩
theorem wF {prog:Program} {w:World} {env:Env} {e:Expr} {f:Str} {pos:Pos} {s:Shared} {Q:Value->Shared->Prop} (hb:attributeBase e f env (eval e env)=eval e env)
  (h:wpAny (model prog w) A (eval e env) (fun o s₁=>wpAny (model prog w) A (getAttr o f true) Q E s₁) E s):wpAny (model prog w) A (eval (.Attribute e f pos) env) Q E s:=
 Attribute_any_ h (by rw [arm_eval_Attribute,hb])
end
def xN (K:PySem.W.Frag) (ta:TE) (f:Str):TE:=fun σ H Q=>ta σ H fun x H1=>∃ a C dx fs v,x=.ref a/\H1 a=some (.ins C dx fs)/\oi K C/\cv K C f/\fs.lookup f=some v/\Q v H1
def EY (K:PySem.W.Frag) (ta:TE) (f:Str):TE:=fun σ H Q=>ta σ H fun x H1=>∃ a C dx fs v u,x=.ref a/\H1 a=some (.ins C dx fs)/\oi K C/\FG K C f v u/\fs.lookup f=none/\Q v H1
def Bb (K:PySem.W.Frag) (ta tv:TE) (f:Str):TS:=fun D σ H=>tv σ H fun y H1=>ta σ H1 fun x H2=>∃ a C dx fs,x=.ref a/\H2 a=some (.ins C dx fs)/\oi K C/\cv K C f/\fs.length < 1000∧
 D.nx σ (ax H2 a (.ins C dx (dt f y fs)))
def Fz (X:Cx) (op:Operator) (rd:V->V->Hp->VK->Prop):Prop:=
 ∀ (pins:List (Addr×Obj)) (s:Shared) (σ:St) (H:Hp) (x y:V) (u v:Value) (Q:VK),Inv X pins σ H s->aO x u->aO y v->rd x y H Q->wpAny (model X.prog X.w) X.A (inplaceOp op u v) (EP X pins σ Q) X.xe s
def Cu (K:PySem.W.Frag) (ta tv:TE) (rd:V->V->Hp->VK->Prop) (f:Str):TS:=fun D σ H=>ta σ H fun x H1=>∃ a C dx fs v,x=.ref a/\H1 a=some (.ins C dx fs)/\oi K C/\cv K C f/\fs.lookup f=some v∧
 tv σ H1 fun y H2=>rd v y H2 fun z H3=>∃ dx' fs',H3 a=some (.ins C dx' fs')/\fs'.length < 1000/\D.nx σ (ax H3 a (.ins C dx' (dt f z fs')))
section
variable {X:Cx} {o e value:Expr} {f:Str} {pos pos' tpos:Pos} {ta tv:TE}
theorem yX (he:PE X e ta) (hb:attributeBase e f X.env (eval e X.env)=eval e X.env):PE X (.Attribute e f pos) (xN X.K ta f):=by
 intro pins s σ H Q I h
 refine wF hb (bc (he pins s σ H _ I h) fun u s1 ⟨x,H1,I1,rx,a,C,dx,fs,v,ex,ea,c,n,l,q⟩=>?_)
 subst ex
 obtain rfl:u=Value.ref a:=rx
 exact nN I1 ea c n l fun u' s2 I2 ru=>⟨v,H1,I2,ru,q⟩
theorem yM (ha:PE X o ta) (hv:PE X value tv) (hs:swapsWith value (some (.Attribute o f pos')) pos.line X.env=pure false):PS X (.Assign [.Attribute o f pos'] value pos) (Bb X.K ta tv f):=by
 intro pins s σ H D I h
 refine plainObj_wpAny_Assign_Attribute (bc (hv pins s σ H _ I h) fun u s1 ⟨y,H1,I1,ry,q⟩=>bc (ha pins s1 σ H1 _ I1 q) fun ov s2 ⟨x,H2,I2,rx,a,C,dx,fs,ex,ea,c,n,l,q2⟩=>?_) hs
 subst ex
 obtain rfl:ov=Value.ref a:=rx
 exact mT I2 ea c n l ry fun s3 I3=>⟨σ,_,I3,q2⟩
def Ff:V->V->Hp->VK->Prop:=fun x y H Q=>∃ i j,x=.int i/\y=.int j/\Q (.int (i+j)) H
def E3:V->V->Hp->VK->Prop:=fun x y H Q=>∃ i j,x=.int i/\y=.int j/\Q (.int (i - j)) H
end
section
variable {X:Cx} {pins:List (Addr×Obj)} {σ:St} {H:Hp} {s:Shared} {A:Around} {E:Value->Shared->Prop} {Q:Value->Shared->Prop} {c:Value} {b:Bool}
inductive ji (K:PySem.W.Frag) (H:Hp):V->Value->Prop where
 | non:ji K H .non (.type "NoneType")
 | bl (x:Bool):ji K H (.bl x) (.type "bool")
 | int (i:Int):ji K H (.int i) (.type "int")
 | str (x:Str):ji K H (.str x) (.type "str")
 | flt (x:UInt64):ji K H (.flt x) (.type "float")
 | lst {a:Addr} {xs:List V} (e:H a=some (.lst xs)):ji K H (.ref a) (.type "list")
 | frz {a:Addr} {o:Obj} {xs:List V} (e:H a=some (.frz o (.lst xs))):ji K H (.ref a) (.type "list")
 | tup {a:Addr} {xs:List V} (e:H a=some (.tup xs)):ji K H (.ref a) (.type "tuple")
 | dK {a:Addr} {kvs:List (bR×V)} (e:H a=some (.dK kvs)):ji K H (.ref a) (.type "dict")
 | dT {a:Addr} {kvs:List (List bR×V)} (e:H a=some (.dT kvs)):ji K H (.ref a) (.type "dict")
 | ins {a C dx:Addr} {fs:List (Str×V)} (e:H a=some (.ins C dx fs)) (cl:oi K C) (ha:PySem.W.findIn K (.ref C) "__class__" = some (some (.builtin "object.__class__")))
   (hn:PySem.W.specialIn K (.builtin "object.__class__") "__get__" = some (some (.builtin "getset_descriptor.__get__"))) (htk:PySem.W.takesIn K (.builtin "object.__class__")=some true)
   (hm:PySem.W.mroIn K C (.type "object")=some true):ji K H (.ref a) (.ref C)
end
end L2
namespace L2
open PySem PySem.Spec PyProof.Rows
structure cr (k:Nat) (A:Around):Prop where
 hd:A.handled=none
 dp:A.depth+3 * k+5 < recursionLimit
 un:A.units+16 * k+200 < cLine
 gd:A.guards=some []
theorem cr.mono {j k:Nat} {A:Around} (r:cr k A) (h:j≤k):cr j A:=⟨r.hd,by have:=r.dp;omega,by have:=r.un;omega,r.gd⟩
theorem cr.deeper {k:Nat} {A:Around} (r:cr (k+1) A) (env:Env):cr k (A.deeper env):=
 ⟨r.hd,by have:=r.dp;show A.depth+1+3 * k+5 < _;omega,by have:=r.un;show A.units+3+16 * k+200 < _;omega,r.gd⟩
theorem nK {A:Around} {C:Addr} {us:List Value} {kw:List (Str×Value)}:(A.under (.builtin "type.__call__" ⟨.ref C :: us,kw⟩)).depth=A.depth+1:=by
 first | rfl | simp [Around.under,Code.weight,Code.isCreation,Code.isGuard,Code.isCaller,Code.frames,Code.isFrame,guardIds]
theorem nJ {A:Around} {C:Addr} {us:List Value} {kw:List (Str×Value)}:(A.under (.builtin "type.__call__" ⟨.ref C :: us,kw⟩)).units=A.units+1:=by
 first | rfl | simp [Around.under,Code.cUnits,Code.frames,Code.isFrame]
theorem lZ {A:Around} {C:Addr} {us:List Value} {kw:List (Str×Value)}:(A.under (.builtin "type.__call__" ⟨.ref C :: us,kw⟩)).guards=A.guards:=by
 first | rfl | simp [Around.under,Code.guards,Code.isGuard,guardIds,pushGuards]
theorem cr.make {k:Nat} {A:Around} (r:cr (k+1) A) (C:Addr) (us:List Value) (kw:List (Str×Value)):cr k (A.under (.builtin "type.__call__" ⟨.ref C :: us,kw⟩)):=
 ⟨r.hd,by have:=r.dp;rw [nK];omega,by have:=r.un;rw [nJ];omega,by rw [lZ];exact r.gd⟩
theorem cr.depth {k:Nat} {A:Around} (r:cr k A):A.depth < recursionLimit:=by have:=r.dp;omega
theorem cr.units {k:Nat} {A:Around} (r:cr k A):A.units+64 < cLine:=by have:=r.un;omega
def uU:TA:=fun _ H Q=>Q [] H
def wV (ta:TE) (tr:TA):TA:=fun σ H Q=>ta σ H fun x H1=>tr σ H1 fun xs H2=>Q (x :: xs) H2
section
variable {X:Cx} {e:Expr} {es:List Expr} {te:TE} {t:TA} {pos:Pos}
theorem yZ:PA X [] uU:=fun _ _ _ _ H Q I h=>Calls.spliced_nil ⟨[],H,I,.nil,h⟩
theorem vR (ha:PE X e te) (hr:PA X es t) (hs:starEach (e :: es) X.env=(false,eval e X.env) :: starEach es X.env:=by rfl):PA X (e :: es) (wV te t):=by
 intro pos pins s σ H Q I h
 rw [hs]
 show wpAny _ _ (spliced ((false,eval e X.env) :: backTo pos (starEach es X.env))) _ _ s
 refine Calls.spliced_cons (bc (ha pins s σ H _ I h) fun u s1 ⟨x,H1,I1,r1,q1⟩=>?_)
 exact bc (hr pos pins s1 σ H1 _ I1 q1) fun us s2 ⟨xs,H2,I2,r2,q2⟩=>⟨x :: xs,H2,I2,.cons r1 r2,q2⟩
def AS (t:TA):TE:=fun σ H Q=>t σ H fun xs H1=>xs.length≤sizeLine/\∀ p,H1 p=none->Q (.ref p) (ax H1 p (.tup xs))
def AW (t:TA):TE:=fun σ H Q=>t σ H fun xs H1=>xs.length≤sizeLine/\∀ p,H1 p=none->Q (.ref p) (ax H1 p (.lst xs))
theorem yT {x1} (h:PA X es t):PE X (.Tuple es x1 pos) (AS t):=by
 intro pins s σ H Q I hq
 refine wpAny_Tuple_spliced (bc (h pos pins s σ H _ I hq) fun us s1 ⟨xs,H1,I1,r,z,q⟩=>⟨by rw [← r.length];exact z,?_⟩)
 have hf:H1 s1.heap.objs.size=none:=I1.hok.fresh (Nat.le_refl _)
 refine⟨.ref s1.heap.objs.size,ax H1 s1.heap.objs.size (.tup xs),I1.laid (t':=s1.toks) (fun b u e=>Heap.get?_push_of_some _ e) (Nat.le_refl _) ?_,rfl,q _ hf⟩
 exact⟨z,us,r,⟨_,Heap.get?_push_size _ rfl,rfl,_,rfl⟩⟩
theorem yV (h:PA X es t):PE X (.List es pos) (AW t):=by
 intro pins s σ H Q I hq
 refine wpAny_List_spliced (bc (h pos pins s σ H _ I hq) fun us s1 ⟨xs,H1,I1,r,z,q⟩=>⟨by rw [← r.length];exact z,?_⟩)
 have hf:H1 s1.heap.objs.size=none:=I1.hok.fresh (Nat.le_refl _)
 refine⟨.ref s1.heap.objs.size,ax H1 s1.heap.objs.size (.lst xs),I1.laid (t':=s1.toks) (fun b u e=>Heap.get?_push_of_some _ e) (Nat.le_refl _) ?_,rfl,q _ hf⟩
 exact⟨z,us,0,r,Heap.get?_push_size _ rfl⟩
end
abbrev Sp:=List V->Hp->VK->XK->Prop
abbrev mD:=List Env->Hp->Shared->XK->Value->Shared->Prop
structure mB (P:Program) (w:World) (K:PySem.W.Frag) (mg:Str->Option Value) (base:Heap) (A:Around) (outer:List Env) (s:Shared) (H:Hp):Prop where
 frames:A.frames=some outer
 mod:Mod K mg base
 bs:∀ b o,base.get? b=some o->s.heap.get? b=some o/\H b=none
 bsz:base.objs.size≤s.heap.objs.size
 funs:s.heap.FunFrames base outer
 frf:∀ b∈oS outer,H b=none
 hok:fN P w H s.heap
 bare:AllBare s.gens
def CE (outer:List Env) (P:Program) (w:World) (H:Hp) (s:Shared) (Q:VK) (u:Value) (s':Shared):Prop:=
 ∃ v H',s'.os=s.os/\AllBare s'.gens/\Un (oS outer) [] H H' s.heap s'.heap/\fN P w H' s'.heap/\aO v u/\Q v H'
def CR (CX:mD) (outer:List Env) (P:Program) (w:World) (H:Hp) (s:Shared) (Q:VK) (E:XK) (r:Result) (s':Shared):Prop:=
 match r with
 | .ok (.ret u)=>CE outer P w H s Q u s'
 | .ok _=>False
 | .error e=>CX outer H s E e s'
structure bh (P:Program) (w:World) (K:PySem.W.Frag) (mg:Str->Option Value) (base:Heap) (CX:mD) (k:Nat) (f:Addr) (fd:FuncData) (ps:List Str) (sp:Sp):Prop where
 len:∀ vs H Q E,sp vs H Q E->vs.length=ps.length
 run:∀ (A:Around) (outer:List Env) (s:Shared) (H:Hp) (args:Args) (us:List Value) (vs:List V) (Q:VK) (E:XK),cr k A->mB P w K mg base A outer s H->BindsTo s fd args (ps.zip us)->aR vs us->sp vs H Q E→
  codeAny (model P w) A (.call (.ref f) args) (CR CX outer P w H s Q E) s
theorem mB.make {P:Program} {w:World} {K:PySem.W.Frag} {mg:Str->Option Value} {base:Heap} {A:Around} {outer:List Env} {s:Shared} {H:Hp} (e:mB P w K mg base A outer s H) (C:Addr) (us:List Value) (kw:List (Str×Value)) :
  mB P w K mg base (A.under (.builtin "type.__call__" ⟨.ref C :: us,kw⟩)) outer s H:=⟨by first | exact e.frames | (simpa [Around.under,Code.envs,Code.isFrame,pushEnvs] using e.frames),e.mod,e.bs,e.bsz,e.funs,e.frf,e.hok,e.bare⟩
section
variable {X:Cx} {pins:List (Addr×Obj)} {σ:St} {H:Hp} {s s':Shared}
theorem Inv.env0 (I:Inv X pins σ H s):mB X.prog X.w X.K X.mg X.base X.A X.stack s H:=
 ⟨I.ok.frames,I.ok.mod,I.bs,Nat.le_trans I.ok.bsz I.sz,I.stack,I.stkFree,I.hok,I.bare⟩
theorem Inv.after {Q:VK} {u:Value} (I:Inv X pins σ H s) (h:CE X.stack X.prog X.w H s Q u s'):EP X pins σ Q u s':=by
 obtain⟨v,H',os,bare,un,hok,r,q⟩:=h
 obtain⟨hh,g,d,t,os'⟩:=s'
 obtain rfl:os'=s.os:=os
 exact⟨v,H',I.call (h':=hh) (g':=g) (d':=d) (t':=t) (ch:=[]) un hok bare (fun b z=>absurd z (by simp)),r,q⟩
end
def qI (sp:Sp) (dvs:List V) (E:XK) (t:TA):TE:=fun σ H Q=>t σ H fun vs H1=>sp (vs++dvs) H1 Q E
def oy (C:Addr) (m:Str) (sp:Sp) (dvs:List V) (E:XK) (ta:TE) (t:TA):TE:=fun σ H Q=>ta σ H fun x H1=>∃ a dx fs,x=.ref a/\H1 a=some (.ins C dx fs)/\fs.lookup m=none∧
 t σ H1 fun vs H2=>sp (x :: (vs++dvs)) H2 Q E
def wS (C:Addr) (sp:Sp) (dvs:List V) (E:XK) (t:TA):TE:=fun σ H Q=>t σ H fun vs H1=>∀ x dx,H1 x=none->H1 dx=none->dx≠x→
 sp (.ref x :: (vs++dvs)) (ax (ax H1 dx (.own x)) x (.ins C dx [])) (fun v H2=>v=.non/\Q (.ref x) H2) E
def aM (K:PySem.W.Frag) (fd:FuncData) (ps:List Str) (ds:List Value):Prop:=
 ∀ (s:Shared) (us:List Value),K.In s.heap->(us++ds).length=ps.length->BindsTo s fd ⟨us,[]⟩ (ps.zip (us++ds))
theorem aM.all {K:PySem.W.Frag} {fd:FuncData} {ps:List Str} (h:∀ us:List Value,us.length=ps.length->bindArgs fd ⟨us,[]⟩=pure (ps.zip us)):aM K fd ps []:=fun s us _ hl=>by
 rw [List.append_nil] at hl ⊢
 exact .of_eq (h us hl)
def dn (CX:mD) (X:Cx) (E:XK):Prop:=∀ (pins:List (Addr×Obj)) (σ:St) (H:Hp) (s:Shared) (e:Value) (s':Shared),Inv X pins σ H s->CX X.stack H s E e s'->X.xe e s'
section
variable {X:Cx} {CX:mD} {k:Nat} {f C:Addr} {fd:FuncData} {ps:List Str} {sp:Sp} {dvs:List V} {ds:List Value} {E:XK} {x m:Str} {p pos apos:Pos} {e o:Expr} {es:List Expr} {ta:TE} {t:TA}
theorem mY {pins:List (Addr×Obj)} {σ:St} {H:Hp} {s:Shared} {Q:VK} {us:List Value} {vs:List V} (F:bh X.prog X.w X.K X.mg X.base CX k f fd ps sp) (hr:cr k X.A) (hb:aM X.K fd ps ds) (hd:aR dvs ds) (hx:dn CX X E)
  (I:Inv X pins σ H s) (r:aR vs us) (h:sp (vs++dvs) H Q E):wpAny (model X.prog X.w) X.A (call (.ref f) us) (EP X pins σ Q) X.xe s:=by
 have r2:aR (vs++dvs) (us++ds):=r.append hd
 have hl:(us++ds).length=ps.length:=by rw [← r2.length];exact F.len _ _ _ _ h
 refine wpAny_call (codeAny_mono (F.run X.A X.stack s H ⟨us,[]⟩ (us++ds) (vs++dvs) Q E hr I.env0 (hb s us I.kIn hl) r2 h) fun r s' hq=>?_)
 cases r with
 | error e=>exact hx pins σ H s e s' I hq
 | ok fl=>
  cases fl with
  | ret u=>exact I.after hq
  | next=>exact False.elim hq
  | brk=>exact False.elim hq
  | cont=>exact False.elim hq
theorem vQ (F:bh X.prog X.w X.K X.mg X.base CX k f fd ps sp) (hr:cr k X.A) (hg:Gl X x) (hm:X.mg x=some (.ref f)) (hk:PySem.W.keepIn X.K (.ref f)=true) (hb:aM X.K fd ps ds) (hd:aR dvs ds) (hx:dn CX X E)
  (ha:PA X (e :: es) t) (hdb:(x == ("__debug__" : Str))=false:=by decide) (he:starEach (e :: es) X.env=(false,eval e X.env) :: starEach es X.env:=by rfl) (hpl:(backTo pos (starEach es X.env)).any (·.1)=false:=by rfl) :
  PE X (.Call (.Name x p) (e :: es) [] pos) (qI sp dvs E t):=by
 intro pins s σ H Q I h
 refine wpAny_Call_Name_kw (kJ I hg hm ?_ hdb)
 refine PySem.W.callWith_K (h₀:=X.base) I.ok.mod.kin hk (bc (ha pos pins s σ H _ I h) fun us s1 ⟨vs,H1,I1,r,q⟩=>⟨I1.kIn,?_⟩) he hpl
 exact mY F hr hb hd hx I1 r q
theorem vL {pl:Sem Bool} (he:PE X o ta) (c:oi X.K C) (hm:fY X.K C m f) (F:bh X.prog X.w X.K X.mg X.base CX k f fd ps sp) (hr:cr k X.A) (hb:aM X.K fd ps ds) (hd:aR dvs ds) (hx:dn CX X E) (ha:PA X (e :: es) t)
  (hst:starEach (e :: es) X.env=(false,eval e X.env) :: starEach es X.env:=by rfl) (hpl:(backTo pos (starEach es X.env)).any (·.1)=false:=by rfl)
  (ht:eval (.Call (.Attribute o m apos) (e :: es) [] pos) X.env=(do
   let ov ← eval o X.env
   standAt apos.atName
   let (f,first) ← holding [ov] (getMethod ov m pl)
   callWith pos f first (backTo pos (starEach (e :: es) X.env)) (backToKw pos (keywordEach [] X.env))):=by rfl) :
  PE X (.Call (.Attribute o m apos) (e :: es) [] pos) (oy C m sp dvs E ta t):=by
 intro pins s σ H Q I h
 refine PySem.W.methodCall_KW (pl:=pl) (bc (he pins s σ H _ I h) fun u s1 ⟨x,H1,I1,rx,a,dx,fs,ex,ea,l,q⟩=>?_) ht
 subst ex
 obtain rfl:u=Value.ref a:=rx
 refine i5 I1 ea c hm l ?_
 refine PySem.W.callWith_K (first:=[.ref a]) (h₀:=X.base) I.ok.mod.kin hm.kp (bc (ha pos pins s1 σ H1 _ I1 q) fun us s2 ⟨vs,H2,I2,r,q2⟩=>⟨I2.kIn,?_⟩) hst hpl
 exact mY (us:=.ref a :: us) (vs:=.ref a :: vs) F hr hb hd hx I2 (.cons rfl r) q2
theorem sZ {pl:Sem Bool} (he:PE X o ta) (c:oi X.K C) (hm:fY X.K C m f) (F:bh X.prog X.w X.K X.mg X.base CX k f fd ps sp) (hr:cr k X.A) (hb:aM X.K fd ps ds) (hd:aR dvs ds) (hx:dn CX X E)
  (ht:eval (.Call (.Attribute o m apos) [] [] pos) X.env=(do
   let ov ← eval o X.env
   standAt apos.atName
   let (f,first) ← holding [ov] (getMethod ov m pl)
   callWith pos f first (backTo pos (starEach [] X.env)) (backToKw pos (keywordEach [] X.env))):=by rfl) :
  PE X (.Call (.Attribute o m apos) [] [] pos) (oy C m sp dvs E ta uU):=by
 intro pins s σ H Q I h
 refine PySem.W.methodCall_KW (pl:=pl) (bc (he pins s σ H _ I h) fun u s1 ⟨x,H1,I1,rx,a,dx,fs,ex,ea,l,q⟩=>?_) ht
 subst ex
 obtain rfl:u=Value.ref a:=rx
 refine i5 I1 ea c hm l ?_
 exact PySem.W.callWith_K0 (first:=[.ref a]) I1.kIn hm.kp (mY (us:=[.ref a]) (vs:=[.ref a]) F hr hb hd hx I1 (.cons rfl .nil) q)
structure Mk (K:PySem.W.Frag) (C f:Addr):Prop where
 makes:PySem.W.makesIn K C=true
 init:PySem.W.findIn K (.ref C) "__init__" = some (some (.ref f))
 fn:PySem.W.isFn K (.ref f)=true
 kp:PySem.W.keepIn K (.ref C)=true
theorem rX {pins:List (Addr×Obj)} {σ:St} {H:Hp} {s:Shared} {Q:VK} {us:List Value} {vs:List V} (M:Mk X.K C f) (F:bh X.prog X.w X.K X.mg X.base CX k f fd ps sp) (hr:cr (k+1) X.A) (hb:aM X.K fd ps ds) (hd:aR dvs ds)
  (hx:dn CX X E) (I:Inv X pins σ H s) (r:aR vs us)
  (h:∀ x dx,H x=none->H dx=none->dx≠x->sp (.ref x :: (vs++dvs)) (ax (ax H dx (.own x)) x (.ins C dx [])) (fun v H2=>v=.non/\Q (.ref x) H2) E) :
  wpAny (model X.prog X.w) X.A (call (.ref C) us) (EP X pins σ Q) X.xe s:=by
 have hq:=h (s.heap.objs.size+1) s.heap.objs.size (I.hok.fresh (Nat.le_succ _)) (I.hok.fresh (Nat.le_refl _)) (Nat.ne_of_lt (Nat.lt_succ_self _))
 have I2:=Inv.made (C:=C) I
 have r2:aR (V.ref (s.heap.objs.size+1) :: (vs++dvs)) (Value.ref (s.heap.objs.size+1) :: (us++ds)):=.cons rfl (r.append hd)
 have hl:(Value.ref (s.heap.objs.size+1) :: us++ds).length=ps.length:=by
  have e:=r2.length
  rw [F.len _ _ _ _ hq] at e
  exact e.symm
 refine wpAny_call (tS (f:=f) I.kIn M.makes M.init (beq_iff_eq.mp M.fn) (codeAny_mono (F.run _ X.stack _ _ ⟨Value.ref (s.heap.objs.size+1) :: us,[]⟩ (Value.ref (s.heap.objs.size+1) :: (us++ds)) _ _ E (hr.make C us [])
  (I2.env0.make C us []) (hb _ (Value.ref (s.heap.objs.size+1) :: us) I2.kIn hl) r2 hq) fun r s' hq'=>?_))
 cases r with
 | error e=>exact hx pins σ _ _ e s' I2 hq'
 | ok fl=>
  cases fl with
  | ret u=>
   obtain⟨v,H',I3,rv,ev,q3⟩:=I2.after hq'
   subst ev
   exact⟨rv,⟨V.ref (s.heap.objs.size+1),H',I3,rfl,q3⟩⟩
  | next=>exact False.elim hq'
  | brk=>exact False.elim hq'
  | cont=>exact False.elim hq'
theorem vM (M:Mk X.K C f) (F:bh X.prog X.w X.K X.mg X.base CX k f fd ps sp) (hr:cr (k+1) X.A) (hg:Gl X x) (hm:X.mg x=some (.ref C)) (hb:aM X.K fd ps ds) (hd:aR dvs ds) (hx:dn CX X E)
  (ha:PA X (e :: es) t) (hdb:(x == ("__debug__" : Str))=false:=by decide) (he:starEach (e :: es) X.env=(false,eval e X.env) :: starEach es X.env:=by rfl) (hpl:(backTo pos (starEach es X.env)).any (·.1)=false:=by rfl) :
  PE X (.Call (.Name x p) (e :: es) [] pos) (wS C sp dvs E t):=by
 intro pins s σ H Q I h
 refine wpAny_Call_Name_kw (kJ I hg hm ?_ hdb)
 refine PySem.W.callWith_K (h₀:=X.base) I.ok.mod.kin M.kp (bc (ha pos pins s σ H _ I h) fun us s1 ⟨vs,H1,I1,r,q⟩=>⟨I1.kIn,?_⟩) he hpl
 exact rX M F hr hb hd hx I1 r q
end
def PK (X:Cx) (kws:List Keyword) (t:TA):Prop:=
 ∀ (pos:Pos) (pins:List (Addr×Obj)) (s:Shared) (σ:St) (H:Hp) (Q:List V->Hp->Prop),Inv X pins σ H s->t σ H Q->wpAny (model X.prog X.w) X.A (evalAll ((backToKw pos (keywordEach kws X.env)).map (·.2))) (AP X pins σ Q) X.xe s
section
variable {X:Cx} {CX:mD} {k:Nat} {f C:Addr} {fd:FuncData} {ps ks:List Str} {sp:Sp} {E:XK} {x m:Str} {p pos apos kpos:Pos} {e o:Expr} {es:List Expr} {kws:List Keyword} {te ta:TE} {t tk:TA} {nm:Option Str}
structure Du (K:PySem.W.Frag) (fd:FuncData) (ps ks:List Str) (g:List Value->List Value->List Value) (gV:List V->List V->List V):Prop where
 to:∀ (s:Shared) (us ws:List Value),K.In s.heap->(g us ws).length=ps.length->BindsTo s fd ⟨us,ks.zip ws⟩ (ps.zip (g us ws))
 rel:∀ {vs:List V} {us:List Value} {zs:List V} {ws:List Value},aR vs us->aR zs ws->aR (gV vs zs) (g us ws)
def CV (sp:Sp) (gV:List V->List V->List V) (E:XK) (t tk:TA):TE:=fun σ H Q=>t σ H fun vs H1=>tk σ H1 fun zs H2=>sp (gV vs zs) H2 Q E
variable {g:List Value->List Value->List Value} {gV:List V->List V->List V}
end
structure aI (N P:List Str) (sc:Scope):Prop where
 kind:sc.kind=.function
 co:sc.isCoroutine=false
 gen:sc.isGenerator=false
 nd:N.Nodup
 pre:N.take P.length=P
 par:∀ x∈P,sc.names.lookup x=some .local∨sc.names.lookup x=some .cell
 nofree:∀ y∈sc.names,y.2≠.free
theorem jX {kindOf:Str->Option NameKind} {x:Str}:∀ {binds:List (Str×Value)} {m:Str->Option Value},(∀ v,(x,v)∉binds)->bindL kindOf binds m x=m x
 | [],_,_=>rfl
 | (n,v) :: r,m,h=>by
  unfold bindL
  rw [jX fun w hw=>h w (List.mem_cons_of_mem _ hw)]
  split
  ·have:x≠n:=by rintro rfl;exact h v List.mem_cons_self
   simp [this]
  ·rfl
theorem jZ {kindOf:Str->Option NameKind} {x:Str}:∀ {binds:List (Str×Value)} {m:Str->Option Value},(∀ v,(x,v)∉binds)->bindC kindOf binds m x=m x
 | [],_,_=>rfl
 | (n,v) :: r,m,h=>by
  unfold bindC
  rw [jZ fun w hw=>h w (List.mem_cons_of_mem _ hw)]
  split
  ·rfl
  ·have:x≠n:=by rintro rfl;exact h v List.mem_cons_self
   simp [this]
theorem jY {kindOf:Str->Option NameKind} {x:Str} {v:Value}:∀ {P:List Str} {vs:List Value} {i:Nat} {m:Str->Option Value},P.Nodup->P[i]?=some x->vs[i]?=some v->kindOf x=some .local→
  bindL kindOf (P.zip vs) m x=some v
 | [],_,_,_,_,h,_,_=>by simp at h
 | _ :: _,[],_,_,_,_,h,_=>by simp at h
 | p :: P,w :: vs,0,m,nd,h1,h2,hk=>by
  simp at h1 h2;subst h1;subst h2
  show bindL kindOf ((p,w) :: P.zip vs) m p=_
  unfold bindL
  rw [jX fun v hv=>(List.nodup_cons.mp nd).1 (List.of_mem_zip hv).1,if_pos hk]
  simp
 | p :: P,w :: vs,i+1,m,nd,h1,h2,hk=>by
  show bindL kindOf ((p,w) :: P.zip vs) m x=_
  unfold bindL
  exact jY (i:=i) (List.nodup_cons.mp nd).2 (by simpa using h1) (by simpa using h2) hk
theorem j0 {kindOf:Str->Option NameKind} {x:Str} {v:Value}:∀ {P:List Str} {vs:List Value} {i:Nat} {m:Str->Option Value},P.Nodup->P[i]?=some x->vs[i]?=some v->kindOf x≠some .local→
  bindC kindOf (P.zip vs) m x=some v
 | [],_,_,_,_,h,_,_=>by simp at h
 | _ :: _,[],_,_,_,_,h,_=>by simp at h
 | p :: P,w :: vs,0,m,nd,h1,h2,hk=>by
  simp at h1 h2;subst h1;subst h2
  show bindC kindOf ((p,w) :: P.zip vs) m p=_
  unfold bindC
  rw [jZ fun v hv=>(List.nodup_cons.mp nd).1 (List.of_mem_zip hv).1,if_neg hk]
  simp
 | p :: P,w :: vs,i+1,m,nd,h1,h2,hk=>by
  show bindC kindOf ((p,w) :: P.zip vs) m x=_
  unfold bindC
  exact j0 (i:=i) (List.nodup_cons.mp nd).2 (by simpa using h1) (by simpa using h2) hk
def gT (N:List Str) (vs:List V):St:=vs.map some++List.replicate (N.length - vs.length) none
def bO (CX:mD) (P:Program) (w:World) (K:PySem.W.Frag) (mg:Str->Option Value) (base:Heap) (N:List Str) (qual:Str) (scope:Scope) (f:Addr) (cd:Value) (A:Around) (outer:List Env) (s:Shared) (H:Hp) (E:XK):Cx where
 prog:=P
 w:=w
 K:=K
 mg:=mg
 base:=base
 A:=A.deeper (envOfC qual scope s.heap.objs.size f cd)
 N:=N
 s₀:=s
 H₀:=H
 env:=envOfC qual scope s.heap.objs.size f cd
 outer:=outer
 stack:=envOfC qual scope s.heap.objs.size f cd :: outer
 ex:=[]
 calm:=true
 fn:=fun _=>true
 pn:=[]
 xe:=fun e s'=>wpAny (model P w) (A.deeper (envOfC qual scope s.heap.objs.size f cd)) (leaving (envOfC qual scope s.heap.objs.size f cd) e) (fun _ s''=>CX outer H s E e s'') (fun e' s''=>CX outer H s E e' s'') s'
theorem mn {sc:Scope} {n:Nat} {x:Str} (h:sc.names.lookup x=some .cell):∃ c,(cellsFrom n sc.names []).lookup x=some c:=by
 have q:=PySem.W.cellsFrom_some sc.names n [] (.inl h)
 exact Option.isSome_iff_exists.mp q
theorem p6 {CX:mD} {P:Program} {w:World} {K:PySem.W.Frag} {mg:Str->Option Value} {base:Heap} {N ps:List Str} {qual:Str} {scope:Scope} {f:Addr} {cd:Value} {A:Around} {outer:List Env} {s s1:Shared} {H:Hp} {E:XK} {us:List Value} {vs:List V}
  (S:aI N ps scope) (hd:A.handled=none) (e0:mB P w K mg base A outer s H) (hl:vs.length=ps.length) (r:aR vs us)
  (x:InCallC s s.heap.objs.size (bindL (envOfC qual scope s.heap.objs.size f cd).kindOf (ps.zip us) fun _=>none) (cellsFrom (s.heap.objs.size+1) scope.names []) (bindC (envOfC qual scope s.heap.objs.size f cd).kindOf (ps.zip us) fun _=>none) s1) :
  Inv (bO CX P w K mg base N qual scope f cd A outer s H E) [] (gT N vs) H s1:=by
 have hpl:ps.length≤N.length:=by have:=congrArg List.length S.pre;rw [List.length_take] at this;omega
 obtain⟨h1,tk,rfl,hk⟩:=x.done
 have noA:∀ b:Addr,b∉(bO CX P w K mg base N qual scope f cd A outer s H E).ex:=fun b z=>absurd (show b∈([]:List Addr) from z) (by simp)
 refine⟨⟨e0.mod,S.kind,rfl,rfl,Nat.le_refl _,fun y z c h1 h2=>?_,fun y hy=>?_,fun y c _ h=>?_,fun _=>hd,Around.frames_deeper e0.frames,.inr ⟨rfl,rfl⟩,fun b z=>absurd z (noA b),e0.bs,e0.bsz,fun b _ _=>noA b,fun b z=>absurd z (noA b),e0.funs,e0.frf⟩,
  rfl,e0.bare,Un.kept hk,⟨_,x.toInCall.ns,fun i y v h1 h2 h3=>?_⟩,fun y c h=>⟨_,x.cell y c h⟩,e0.hok.fresh (Nat.le_refl _),fun y c h=>?_,fun p hp=>absurd (show p∈([]:List (Addr×Obj)) from hp) (by simp),e0.hok.kept hk,?_⟩
 ·exact name_of_addr x.apart (PySem.mem_of_lookup h1) (PySem.mem_of_lookup h2)
 ·have hy:scope.names.lookup y=some .cell∨scope.names.lookup y=some .free:=hy
  rcases hy with hy | hy
  ·exact mn hy
  ·exact absurd rfl (S.nofree _ (PySem.mem_of_lookup hy))
 ·exact Nat.le_of_lt (x.above y c (PySem.mem_of_lookup h))
 ·have hi:i < vs.length:=by
   unfold gT at h2
   by_cases hi:i < vs.length
   ·exact hi
   ·rw [List.getElem?_append_right (by simpa using hi)] at h2
    rw [List.getElem?_replicate] at h2
    split at h2 <;> cases h2
  have ha:vs[i]?=some v:=by
   unfold gT at h2
   rw [List.getElem?_append_left (by simpa using hi),List.getElem?_map] at h2
   cases e:vs[i]? with
   | none=>rw [e] at h2;cases h2
   | some a=>rw [e] at h2;cases h2;rfl
  obtain⟨u,hu,rv⟩:=r.get ha
  have hp:ps[i]?=some y:=by
   rw [← S.pre,List.getElem?_take_of_lt (by omega)];exact h1
  have ndP:ps.Nodup:=by rw [← S.pre];exact S.nd.sublist (List.take_sublist _ _)
  refine⟨u,rv,?_⟩
  rcases S.par y (List.mem_of_getElem? hp) with k | k
  ·exact .inl ⟨k,jY ndP hp hu k⟩
  ·obtain⟨c,e⟩:=mn (n:=s.heap.objs.size+1) k
   refine .inr ⟨.inl k,c,e,?_⟩
   have q:=x.cell y c e
   rw [j0 ndP hp hu (by show scope.names.lookup y≠_;rw [k];decide)] at q
   exact q
 ·exact e0.hok.fresh (Nat.le_of_lt (x.above y c (PySem.mem_of_lookup h)))
 ·unfold gT
  show _=N.length
  rw [List.length_append,List.length_map,List.length_replicate]
  omega
theorem B1 {CX:mD} {P:Program} {w:World} {K:PySem.W.Frag} {mg:Str->Option Value} {base:Heap} {k:Nat} {f:Addr} {name qual:Str} {params:Arguments} {body:List Stmt} {scope:Scope} {dV kV doc pm cdv ct oc:Value} {an od:Option Addr}
  {osl:Array (Option Value)} {N ps:List Str} {sp:Sp} (lk:K.lookup f=some ⟨oc,od,.func (PySem.W.fnOf name qual params body scope dV kV doc pm an cdv ct),osl⟩) (hcd:PySem.W.codeIn K cdv qual=true) (S:aI N ps scope)
  (len:∀ vs H Q E,sp vs H Q E->vs.length=ps.length)
  (hbody:∀ (A:Around) (outer:List Env) (s:Shared) (H:Hp) (vs:List V) (Q:VK) (E:XK),cr k (A.deeper (envOfC qual scope s.heap.objs.size f cdv))->sp vs H Q E→
   ∃ t,oa (bO CX P w K mg base N qual scope f cdv A outer s H E) body t/\t { nx:=fun _ H'=>Q .non H',rt:=Q } (gT N vs) H) :
  bh P w K mg base CX (k+1) f (PySem.W.fnOf name qual params body scope dV kV doc pm an cdv ct) ps sp:=by
 refine⟨len,fun A outer s H args us vs Q E hr e0 hb r hsp=>?_⟩
 have hl:=len _ _ _ _ hsp
 have KX:K.In s.heap:=e0.mod.kin.keeps fun b o e=>(e0.bs b o e).1
 have lim:s.heap.NoLimit:=e0.mod.nolimit.keeps fun b o e=>(e0.bs b o e).1
 have hkind:∀ y∈ps.zip us,scope.names.lookup y.1=some .local∨(scope.names.lookup y.1=some .cell/\((cellsFrom (s.heap.objs.size+1) scope.names []).lookup y.1).isSome=true):=fun⟨n,v⟩ hy=>by
  rcases S.par n (List.of_mem_zip hy).1 with q | q
  ·exact .inl q
  ·exact .inr ⟨q,PySem.W.cellsFrom_some _ _ _ (.inl q)⟩
 refine codeAny_call_function hr.depth (KX _ _ lk) rfl S.co S.gen rfl (PySem.W.codeRec_of KX hcd) (hb _ _ _ _ ?_)
 refine wpAny_newFunctionEnv_cells S.kind hkind fun env he s1 x=>?_
 subst he
 refine⟨lim.keeps x.toInCall.keep,codeAny_func ?_⟩
 obtain⟨t,ht,hq⟩:=hbody A outer s H vs Q E (hr.deeper _) hsp
 have I:Inv (bO CX P w K mg base N qual scope f cdv A outer s H E) [] (gT N vs) H s1:=p6 S hr.hd e0 hl r x
 refine wpAny_mono (ht [] s1 (gT N vs) H _ I hq) (fun fl s' hs=>?_) fun e s' hs=>hs
 have fin:∀ {σ':St} {H':Hp} {v:V} {u:Value},Inv (bO CX P w K mg base N qual scope f cdv A outer s H E) [] σ' H' s'->aO v u->Q v H'->CE outer P w H s Q u s':=
  fun {σ' H' v u} J rv q=>⟨v,H',J.os,J.bare,J.base,J.hok,rv,q⟩
 cases fl with
 | ret u=>
  obtain⟨v,σ',H',J,rv,q⟩:=hs
  exact fin J rv q
 | next=>
  obtain⟨σ',H',J,q⟩:=hs
  exact fin (v:=V.non) (u:=Value.none) J rfl q
 | brk=>
  obtain⟨_,_,_,q⟩:=hs
  exact False.elim q
 | cont=>
  obtain⟨_,_,_,q⟩:=hs
  exact False.elim q
end L2
namespace L2
open PySem PySem.Spec PyProof.Rows
section
variable {X:Cx} {x:Str} {p pos:Pos} {e:Expr} {es:List Expr} {t:TA} {id T:String} {r:List V->Hp->VK->Prop}
def Cn (r:List V->Hp->VK->Prop) (t:TA):TE:=fun σ H Q=>t σ H fun vs H1=>r vs H1 Q
theorem tz (hc:cB X (.builtin id) r) (hg:Gl X x) (hm:X.mg x=none) (hv:bootBuiltins x=some (.builtin id)) (ha:PA X (e :: es) t) (hn:x ≠ "__name__" := by decide) (hdb:(x == ("__debug__" : Str))=false:=by decide)
  (he:starEach (e :: es) X.env=(false,eval e X.env) :: starEach es X.env:=by rfl) (hpl:(backTo pos (starEach es X.env)).any (·.1)=false:=by rfl):PE X (.Call (.Name x p) (e :: es) [] pos) (Cn r t):=by
 intro pins s σ H Q I h
 refine wpAny_Call_Name_kw (gL I hg hm hv ?_ hn hdb)
 exact PyProof.Rows.callWith_builtin1 (bc (ha pos pins s σ H _ I h) fun us s1 ⟨vs,H1,I1,r1,q1⟩=>hc pins s1 σ H1 vs us Q I1 r1 q1) he hpl
theorem pV (hc:cB X (.type T) r) (hg:Gl X x) (hm:X.mg x=none) (hv:bootBuiltins x=some (.type T)) (ha:PA X (e :: es) t) (hn:x ≠ "__name__" := by decide) (hdb:(x == ("__debug__" : Str))=false:=by decide)
  (he:starEach (e :: es) X.env=(false,eval e X.env) :: starEach es X.env:=by rfl) (hpl:(backTo pos (starEach es X.env)).any (·.1)=false:=by rfl):PE X (.Call (.Name x p) (e :: es) [] pos) (Cn r t):=by
 intro pins s σ H Q I h
 refine wpAny_Call_Name_kw (gL I hg hm hv ?_ hn hdb)
 exact PyProof.Rows.callWith_type1 (bc (ha pos pins s σ H _ I h) fun us s1 ⟨vs,H1,I1,r1,q1⟩=>hc pins s1 σ H1 vs us Q I1 r1 q1) he hpl
end
end L2
namespace HT
open PySem PyProof.Rows
def lexLt:List Int->List Int->Bool
 | [],[]=>false
 | [],_ :: _=>true
 | _ :: _,[]=>false
 | x :: xs,y :: ys=>if x=y then lexLt xs ys else decide (x < y)
section
open PySem.SeqAt
open PySem.AutoSeq1 (wpAny_loadPart')
open PySem.MeetsSeq PySem.MeetsSeq2 PySem.MeetsSeq3
end
section
variable {prog:Program} {w:World} {A:Around} {E:Value->Shared->Prop} {s:Shared}
def sIx (n d:Nat):Option Int->Nat
 | none=>d
 | some v=>if v < 0 then (v+(n:Int)).toNat else min v.toNat n
theorem sIx_none (n d:Nat):sIx n d none=d:=rfl
theorem sIx_nat (n d k:Nat):sIx n d (some (k:Int))=min k n:=by
 show (if (k:Int) < 0 then ((k:Int)+(n:Int)).toNat else min (k:Int).toNat n)=min k n
 rw [if_neg (by omega),Int.toNat_natCast]
theorem yq (n d:Nat) (hd:d≤n) (o:Option Int):sIx n d o≤n:=by
 cases o with
 | none=>exact hd
 | some v=>
  show (if v < 0 then (v+(n:Int)).toNat else min v.toNat n)≤n
  by_cases hv:v < 0
  ·rw [if_pos hv];omega
  ·rw [if_neg hv];exact Nat.min_le_right _ _
theorem oY (v:Int) (n d:Nat):(if v < 0 then max (v+(n:Int)) 0 else min v (n:Int))=((sIx n d (some v):Nat):Int):=by
 show (if v < 0 then max (v+(n:Int)) 0 else min v (n:Int))=(((if v < 0 then (v+(n:Int)).toNat else min v.toNat n):Nat):Int)
 by_cases hv:v < 0
 ·simp only [if_pos hv];omega
 ·simp only [if_neg hv];omega
theorem nU (lo hi:Option Int) (n:Nat):Builtin.Slice.sliceAdjust lo hi 1 (n:Int)=(((sIx n 0 lo:Nat):Int),((sIx n n hi:Nat):Int)):=by
 have h1:¬ ((1:Int) < 0):=by omega
 unfold Builtin.Slice.sliceAdjust
 simp only [h1,if_false]
 refine Prod.ext ?_ ?_
 ·cases lo with
  | none=>rfl
  | some v=>exact oY v n 0
 ·cases hi with
  | none=>rfl
  | some v=>exact oY v n n
theorem nk (i j:Nat):Builtin.Slice.slicePlaces (i:Int) (j:Int) 1=j - i:=by
 unfold Builtin.Slice.slicePlaces
 have h1:(1:Int) > 0:=by omega
 simp only [h1,if_true,Int.ediv_one]
 split <;> omega
theorem iM {v:Value} {o:Option Int} {Q:Option Int->Shared->Prop} (p:IsPart v o) (h:Q o s):wpAny (model prog w) A (Builtin.Slice.slicePartIndex v) Q E s:=by
 cases p with
 | none=>exact slicePart_none h
 | int i t=>exact slicePart_int h
theorem dU {sl:Addr} {vl vu:Value} {lo hi:Option Int} {n:Nat} {Q:Int×Int×Nat->Shared->Prop} (hs:s.heap.IsSliceOf sl vl vu .none) (pl:IsPart vl lo) (pu:IsPart vu hi)
  (h:Q (((sIx n 0 lo:Nat):Int),1,sIx n n hi - sIx n 0 lo) s):wpAny (model prog w) A (Builtin.Slice.sliceApplied (.ref sl) (pure (n:Int))) Q E s:=by
 obtain⟨os,hos,hcs,hds⟩:=id hs
 unfold Builtin.Slice.sliceApplied Builtin.Slice.sliceFields
 refine wpAny_bind (wpAny_bind (wpAny_field hos hds (x:=vl) rfl (wpAny_bind (wpAny_field hos hds (x:=vu) rfl (wpAny_bind (wpAny_field hos hds (x:=.none) rfl (wpAny_pure ?_)))))))
 refine wpAny_bind (slicePart_none ?_)
 show wpAny _ _ (if ((1:Int) == 0)=true then _ else _) _ _ s
 rw [if_neg (by decide)]
 refine wpAny_bind (iM pl (wpAny_bind (iM pu (wpAny_bind (wpAny_pure ?_)))))
 show wpAny _ _ (match Builtin.Slice.sliceAdjust lo hi 1 (n:Int) with | (lo,hi)=>pure (lo,(1:Int),Builtin.Slice.slicePlaces lo hi 1)) _ _ s
 rw [nU lo hi n]
 show wpAny _ _ (pure (((sIx n 0 lo:Nat):Int),(1:Int),Builtin.Slice.slicePlaces ((sIx n 0 lo:Nat):Int) ((sIx n n hi:Nat):Int) 1)) _ _ s
 rw [nk]
 exact wpAny_pure h
theorem sT (xs:Array Value) (i k:Nat):((List.range k).filterMap fun (m:Nat)=>xs[((i:Int)+(m:Int) * 1).toNat]?).toArray=((xs.toList.drop i).take k).toArray:=by
 have e:(fun (m:Nat)=>xs[((i:Int)+(m:Int) * 1).toNat]?)=fun m=>xs[i+m]?:=by
  funext m
  have:((i:Int)+(m:Int) * 1).toNat=i+m:=by omega
  rw [this]
 rw [e]
 have:=pick_run xs i k
 rw [List.filterMap_map] at this
 have e2:((fun x=>xs[x]?) ∘ fun x=>i+x)=fun m=>xs[i+m]?:=rfl
 rw [e2] at this
 rw [this]
theorem getItem_tuple_cut {t sl:Addr} {items:Array Value} {vl vu:Value} {lo hi:Option Int} {Q:Value->Shared->Prop} (ht:IsTup s.heap t items) (hs:s.heap.IsSliceOf sl vl vu .none) (pl:IsPart vl lo) (pu:IsPart vu hi)
  (hw:¬ (sIx items.size 0 lo=0/\sIx items.size items.size hi=items.size))
  (h:Q (.ref s.heap.objs.size) { s with heap:=s.heap.push { cls:=.type "tuple", data:=.seq ((items.toList.drop (sIx items.size 0 lo)).take (sIx items.size items.size hi - sIx items.size 0 lo)).toArray } })
  (hsz:items.size≤sizeLine):wpAny (model prog w) A (getItem (.ref t) (.ref sl)) Q E s:=by
 have htake:sizeOk (.seq ((items.toList.drop (sIx items.size 0 lo)).take (sIx items.size items.size hi - sIx items.size 0 lo)).toArray):=by
  show ((items.toList.drop (sIx items.size 0 lo)).take (sIx items.size items.size hi - sIx items.size 0 lo)).toArray.size≤sizeLine
  rw [List.size_toArray,List.length_take,List.length_drop,Array.length_toList]
  omega
 have hj:sIx items.size items.size hi≤items.size:=yq _ _ (Nat.le_refl _) hi
 obtain⟨os,hos,hcs,hds⟩:=id hs
 have hTs:s.TypeIs (.ref sl) "slice" := ⟨os,hos,hcs⟩
 unfold getItem
 try with_reducible refine wpAny_holding ?_
 first | refine wpAny_bind (wpAny_pure ?_) | skip
 refine wpAny_bind (wpAny_sequenceKey ht.typeIs (by decide) ?_)
 refine wpAny_bind (wpAny_callSpecial?_slot (name:=Str.ofString "__getitem__") ht.typeIs PyProof.Rows.slot_tuple_getitem
  (wpAny_call_entry PyProof.Rows.slot_tuple_getitem ht.typeIs entry_tuple_getitem ?_ (args_tuple_getitem _ _)))
 show wpAny _ _ (Builtin.Tuple.tupleItemsOf (.ref t) >>= _) _ _ s
 refine wpAny_bind (tupleItemsOf_ ht ?_)
 refine wpAny_bind (wpAny_typeOf hTs ?_)
 rw [if_pos (by decide)]
 refine wpAny_bind (dU hs pl pu ?_)
 have hno:¬ ((((sIx items.size 0 lo:Nat):Int) == 0 && (1:Int) == 1 && (sIx items.size items.size hi - sIx items.size 0 lo) == items.size)=true):=by
  intro q
  rw [Bool.and_eq_true,Bool.and_eq_true] at q
  have q1:((sIx items.size 0 lo:Nat):Int)=0:=eq_of_beq q.1.1
  have q2:sIx items.size items.size hi - sIx items.size 0 lo=items.size:=eq_of_beq q.2
  exact hw ⟨by omega,by omega⟩
 show wpAny _ _ (if (((sIx items.size 0 lo:Nat):Int) == 0 && (1:Int) == 1 && (sIx items.size items.size hi - sIx items.size 0 lo) == items.size)=true then _ else _) _ _ s
 rw [if_neg hno,sT]
 first
  | exact wpAny_bind (m:=Builtin.Tuple.tupleExact _) (wpAny_newObj_type (wpAny_pure ⟨_,rfl,wpAny_pure h⟩) htake)
  | exact wpAny_bind (m:=Builtin.Tuple.tupleExact _) (wpAny_newObj_type (wpAny_bind (wpAny_pure (wpAny_pure ⟨_,rfl,wpAny_pure h⟩))) htake)
  | exact wpAny_bind (wpAny_bind (m:=Builtin.Tuple.tupleExact _) (wpAny_newObj_type (wpAny_pure (wpAny_pure ⟨_,rfl,wpAny_pure h⟩)) htake))
  | exact wpAny_bind (wpAny_bind (m:=Builtin.Tuple.tupleExact _) (wpAny_newObj_type (wpAny_pure ⟨_,rfl,wpAny_pure h⟩) htake))
end
end HT
namespace L2
open PySem PySem.Spec PyProof.Rows
abbrev TO:=St->Hp->(Option Int->Hp->Prop)->Prop
def PO (X:Cx) (e:Option Expr) (t:TO):Prop:=
 ∀ (pins:List (Addr×Obj)) (s:Shared) (σ:St) (H:Hp) (Q:Option Int->Hp->Prop),Inv X pins σ H s->t σ H Q→
  wpAny (model X.prog X.w) X.A (evalPart e X.env) (fun u s'=>∃ o H',Inv X pins σ H' s'/\IsPart u o/\Q o H') X.xe s
def ow:TO:=fun _ H Q=>Q none H
def wP (t:TE):TO:=fun σ H Q=>t σ H fun x H1=>∃ i,x=.int i/\Q (some i) H1
section
variable {X:Cx} {e:Expr} {te:TE} {lo hi:Option Expr} {tl th:TO} {pos p2:Pos}
theorem vB:PO X none ow:=by
 intro pins s σ H Q I h
 rw [evalPart_none]
 exact wpAny_pure ⟨none,H,I,.none,h⟩
theorem vA (h:PE X e te):PO X (some e) (wP te):=by
 intro pins s σ H Q I hw
 rw [evalPart_some]
 refine bc (h pins s σ H _ I hw) fun u s1 ⟨x,H1,I1,r1,q1⟩=>?_
 obtain⟨i,rfl,q⟩:=q1
 obtain⟨t,rfl⟩:=r1
 exact⟨some i,H1,I1,.int i t,q⟩
def qx (X:Cx) (r:V->Option Int->Option Int->Hp->VK->Prop):Prop:=
 ∀ (pins:List (Addr×Obj)) (s:Shared) (σ:St) (H:Hp) (x:V) (v vl vu:Value) (lo hi:Option Int) (sl:Addr) (Q:VK),Inv X pins σ H s->aO x v->s.heap.IsSliceOf sl vl vu .none->IsPart vl lo->IsPart vu hi->r x lo hi H Q→
  ∃ T id,typeLookup (.type T) "__getitem__" = pure (some (.builtin id))/\s.TypeIs v T/\wpAny (model X.prog X.w) X.A (getItem v (.ref sl)) (EP X pins σ Q) X.xe s
theorem qx.or {r r':V->Option Int->Option Int->Hp->VK->Prop} (h:qx X r) (h':qx X r'):qx X (fun x lo hi H Q=>r x lo hi H Q∨r' x lo hi H Q):=by
 intro pins s σ H x v vl vu lo hi sl Q I rx hs pl pu q
 rcases q with q | q
 ·exact h pins s σ H x v vl vu lo hi sl Q I rx hs pl pu q
 ·exact h' pins s σ H x v vl vu lo hi sl Q I rx hs pl pu q
def DJ (r:V->Option Int->Option Int->Hp->VK->Prop) (te:TE) (tl th:TO):TE:=fun σ H Q=>te σ H fun x H1=>tl σ H1 fun l H2=>th σ H2 fun u H3=>r x l u H3 Q
theorem sY {r:V->Option Int->Option Int->Hp->VK->Prop} (hr:qx X r) (he:PE X e te) (hl:PO X lo tl) (hu:PO X hi th):PE X (.Subscript e (.Slice lo hi none p2) pos) (DJ r te tl th):=by
 intro pins s σ H Q I h
 refine Subscript_ (bc (he pins s σ H _ I h) fun v s1 ⟨x,H1,I1,r1,q1⟩=>?_)
 refine wpAny_Slice (bc (hl pins s1 σ H1 _ I1 q1) fun vl s2 ⟨l,H2,I2,pl,q2⟩=>bc (hu pins s2 σ H2 _ I2 q2) fun vu s3 ⟨u,H3,I3,pu,q3⟩=>?_)
 rw [evalPart_none]
 refine wpAny_pure ?_
 have I4:Inv X pins σ H3 { s3 with heap:=s3.heap.push { cls:=.type "slice", data:=.fields #[vl,vu,.none] } }:=I3.kept (t':=s3.toks) fun b ob q=>Heap.get?_push_of_some _ q
 obtain⟨T,id,hT,ht,hg⟩:=hr pins { s3 with heap:=s3.heap.push { cls:=.type "slice", data:=.fields #[vl,vu,.none] } } σ H3 x v vl vu l u s3.heap.objs.size Q I4 r1 (Heap.IsSliceOf.new ..) pl pu q3
 show wpAny (model X.prog X.w) X.A (subscriptTail e (.Slice lo hi none p2) v (.ref s3.heap.objs.size)) (EP X pins σ Q) X.xe { s3 with heap:=s3.heap.push { cls:=.type "slice", data:=.fields #[vl,vu,.none] } }
 exact tail_any (ops:=[.ref s3.heap.objs.size,v]) ht hT hg (by with_unfolding_all rfl)
def eP (xs:List V) (lo hi:Option Int):List V:=(xs.drop (HT.sIx xs.length 0 lo)).take (HT.sIx xs.length xs.length hi - HT.sIx xs.length 0 lo)
theorem hU (xs:List V) (lo hi:Option Int):(eP xs lo hi).length≤xs.length:=by
 unfold eP
 rw [List.length_take,List.length_drop]
 omega
def Bf (K:PySem.W.Frag):V->Option Int->Option Int->Hp->VK->Prop:=fun x lo hi H Q=>∃ a xs,x=.ref a/\bS K H a xs∧
 ¬ (HT.sIx xs.length 0 lo=0/\HT.sIx xs.length xs.length hi=xs.length)/\∀ p,H p=none->Q (.ref p) (ax H p (.tup (eP xs lo hi)))
theorem qS:qx X (Bf X.K):=by
 intro pins s σ H x v vl vu lo hi sl Q I rx hs pl pu h
 obtain⟨a,xs,rfl,hx,hw,q⟩:=h
 cases rx
 obtain⟨its,r,ht,hz⟩:=I.tuple hx
 have hlen:its.toArray.size=xs.length:=by rw [List.size_toArray];exact r.length.symm
 refine⟨"tuple", _,PyProof.Rows.slot_tuple_getitem.lookup,ht.typeIs,?_⟩
 refine HT.getItem_tuple_cut ht hs pl pu (by rw [hlen];exact hw) ?_ (by rw [hlen];exact hz)
 rw [hlen]
 refine⟨.ref s.heap.objs.size,_,I.laid (t':=s.toks) (o:=.tup (eP xs lo hi)) (fun b ob q=>Heap.get?_push_of_some _ q) (Nat.le_refl _) ?_,rfl,q _ (I.hok.fresh (Nat.le_refl _))⟩
 exact⟨Nat.le_trans (hU xs lo hi) hz,_,(r.drop (HT.sIx xs.length 0 lo)).take (HT.sIx xs.length xs.length hi - HT.sIx xs.length 0 lo),IsTup.new _ _⟩
def E8 (K:PySem.W.Frag):R2:=fun x y H Q=>∃ a b ns ms,x=.ref a/\y=.ref b/\bS K H a (ns.map V.int)/\bS K H b (ms.map V.int)/\Q (.bl (HT.lexLt ns ms)) H
def Ec (K:PySem.W.Frag):R2:=fun x y H Q=>∃ a b xs ys,x=.ref a/\y=.ref b/\bS K H a xs/\bS K H b ys/\xs≠[]/\xs.length+ys.length≤sizeLine∧
 (ys=[]->Q (.ref a) H)/\(ys≠[]->∀ p,H p=none->Q (.ref p) (ax H p (.tup (xs++ys))))
end
end L2
namespace L2
open PySem PySem.Spec PyProof.Rows
def tX (n:Nat) (i:Int):Option Nat:=if 0≤i then (if i < n then some i.toNat else none) else if -(n:Int)≤i then some (i+n).toNat else none
def mC {α:Type} (xs:List α) (i:Int):Option α:=(tX xs.length i).bind fun j=>xs[j]?
theorem oP {n:Nat} {i:Int} {j:Nat} (h:tX n i=some j):seqIndex? i n=some j/\j < n/\-(n:Int)≤i/\i < n:=by
 unfold tX at h
 by_cases h0:0≤i
 ·rw [if_pos h0] at h
  by_cases h1:i < n
  ·rw [if_pos h1] at h
   have e:i.toNat=j:=Option.some.inj h
   exact⟨by rw [seqIndex_of h0 h1,e],by omega,by omega,h1⟩
  ·rw [if_neg h1] at h;cases h
 ·rw [if_neg h0] at h
  by_cases h1:-(n:Int)≤i
  ·rw [if_pos h1] at h
   have e:(i+n).toNat=j:=Option.some.inj h
   exact⟨by rw [seqIndex_neg (by omega) h1,e],by omega,h1,by omega⟩
  ·rw [if_neg h1] at h;cases h
theorem o4 {α:Type} {xs:List α} {i:Int} {v:α} (h:mC xs i=some v):∃ j,seqIndex? i xs.length=some j/\xs[j]?=some v/\j < xs.length/\-(xs.length:Int)≤i/\i < xs.length:=by
 unfold mC at h
 cases e:tX xs.length i with
 | none=>rw [e] at h;cases h
 | some j=>
  rw [e] at h
  obtain⟨h1,h2,h3,h4⟩:=oP e
  exact⟨j,h1,h,h2,h3,h4⟩
theorem aJ {α:Type} {xs:List α} {j:Nat} {v:α} (h:xs[j]?=some v):mC xs (j:Int)=some v:=by
 have hj:j < xs.length:=(List.getElem?_eq_some_iff.mp h).1
 have e:tX xs.length (j:Int)=some j:=by
  unfold tX
  rw [if_pos (by omega),if_pos (by omega)];simp
 unfold mC;rw [e];exact h
theorem uD {α:Type} (xs:List α) (v:α):mC (xs++[v]) (-1)=some v:=by
 have hl:(xs++[v]).length=xs.length+1:=by simp
 have e:tX (xs++[v]).length (-1)=some xs.length:=by
  unfold tX
  rw [hl,if_neg (by decide),if_pos (by omega)]
  congr 1
  omega
 unfold mC
 rw [e]
 show (xs++[v])[xs.length]?=some v
 simp
def k9 (b:Expr):Prop:=∀ o i,subscripted b false o i=operate [o,i] (getItem o i)
def Ar (X:Cx) (r:R2):Prop:=
 ∀ (value slice:Expr) (pins:List (Addr×Obj)) (s:Shared) (σ:St) (H:Hp) (x y:V) (v u:Value) (Q:VK),Inv X pins σ H s->aO x v->aO y u->r x y H Q→
  subscripted slice false v u=operate [v,u] (getItem v u)->wpAny (model X.prog X.w) X.A (subscriptTail value slice v u) (EP X pins σ Q) X.xe s
def EB (X:Cx) (id:String) (r:V->List V->Hp->VK->Prop):Prop:=
 ∀ (pins:List (Addr×Obj)) (s:Shared) (σ:St) (H:Hp) (x:V) (xs:List V) (v:Value) (us:List Value) (Q:VK),Inv X pins σ H s->aO x v->aR xs us->r x xs H Q→
  wpAny (model X.prog X.w) X.A (call (.builtin id) (v :: us)) (EP X pins σ Q) X.xe s
section
variable {X:Cx} {a b:Expr} {ta tb:TE} {pos:Pos}
theorem Bw {r:R2} (hr:Ar X r) (ha:PE X a ta) (hb:PE X b tb) (hs:k9 b):PE X (.Subscript a b pos) (uT r ta tb):=by
 intro pins s σ H Q I h
 exact Subscript_ (Af ha hb I h fun v u s2 x y H2 I2 rx ry q=>hr a b pins s2 σ H2 x y v u Q I2 rx ry q (hs _ _))
def yw (K:PySem.W.Frag):R2:=fun x y H Q=>∃ p xs i v,x=.ref p/\y=.int i/\aF K H p xs/\mC xs i=some v/\Q v H
def yu (K:PySem.W.Frag):R2:=fun x y H Q=>∃ p xs i v,x=.ref p/\y=.int i/\bS K H p xs/\mC xs i=some v/\Q v H
def C3:R2:=fun x y H Q=>∃ z i c,x=.str z/\y=.int i/\z.length≤sizeLine/\mC z.cps.toList i=some c/\Q (.str ⟨#[c]⟩) H
theorem aL:Ar X (yw X.K):=by
 intro value slice pins s σ H x y v u Q I rx ry h hs
 obtain⟨p,xs,i,z,rfl,rfl,hq,he,q⟩:=h
 cases rx
 obtain⟨t,rfl⟩:=ry
 obtain⟨its,r,pl,hz⟩:=I.list hq
 obtain⟨j,h1,h2,h3,h4,h5⟩:=o4 he
 obtain⟨w,ew,rw'⟩:=r.get h2
 have hl:=r.length
 have hn:=iY
 have fin:EP X pins σ Q w s:=⟨z,H,I,rw',q⟩
 by_cases h0:0≤i
 ·have hj:i.toNat=j:=by
   rw [seqIndex_of h0 h5] at h1
   exact Option.some.inj h1
  exact item_listR pl.isList h0 (by omega) (by rw [hj];simpa using ew) fin hs
 ·have hj:(i+(its.toArray.size:Int)).toNat=j:=by
   rw [seqIndex_neg (by omega) h4] at h1
   rw [List.size_toArray,← hl]
   exact Option.some.inj h1
  exact subscriptTail_builtinR (x:=w) pl.isList.typeIs slot_list_getitem.lookup
   (wpAny_getItem_list_neg (Q:=fun r s'=>r=w/\EP X pins σ Q r s') pl.isList (by omega) (by rw [List.size_toArray] <;> omega) (by omega) (by rw [hj];simpa using ew) ⟨rfl,fin⟩) hs
theorem aH:Ar X (yu X.K):=by
 intro value slice pins s σ H x y v u Q I rx ry h hs
 obtain⟨p,xs,i,z,rfl,rfl,hq,he,q⟩:=h
 cases rx
 obtain⟨t,rfl⟩:=ry
 obtain⟨its,r,pl,hz⟩:=I.tuple hq
 obtain⟨j,h1,h2,h3,h4,h5⟩:=o4 he
 obtain⟨w,ew,rw'⟩:=r.get h2
 have hl:=r.length
 have hn:=iY
 have fin:EP X pins σ Q w s:=⟨z,H,I,rw',q⟩
 exact subscriptTail_builtinR (x:=w) pl.typeIs slot_tuple_getitem.lookup
  (getItem_tuple (j:=j) (Q:=fun r s'=>r=w/\EP X pins σ Q r s') pl (by omega) (by omega) (by rw [List.size_toArray,← hl];exact h1) (by simpa using ew) ⟨rfl,fin⟩) hs
def FP (K:PySem.W.Frag):R2:=fun x y H Q=>yw K x y H Q∨yu K x y H Q∨C3 x y H Q
theorem nI (its:List Value) (n j:Nat) (u:Value):Obj.mapSeq (·.setIfInBounds j u) { cls:=.type "list", data:=.seq its.toArray n }={ cls:=.type "list", data:=.seq (its.set j u).toArray n }:=by
 simp [Obj.mapSeq]
theorem Inv.lst {pins:List (Addr×Obj)} {σ:St} {H:Hp} {s:Shared} {p:Addr} {xs:List V} (I:Inv X pins σ H s) (h:H p=some (.lst xs)) :
  ∃ (its:List Value) (n:Nat),aR xs its/\s.heap.get? p=some { cls:=.type "list", data:=.seq its.toArray n }/\xs.length≤sizeLine:=by
 obtain⟨z,its,n,r,e⟩:=I.hok p _ h
 exact⟨its,n,r,e,z⟩
theorem Inv.lstUpd {pins:List (Addr×Obj)} {σ:St} {H:Hp} {s:Shared} {p:Addr} {xs ys:List V} {its its':List Value} {n n':Nat} {f:Obj->Obj} (I:Inv X pins σ H s) (h:H p=some (.lst xs))
  (ho:s.heap.get? p=some { cls:=.type "list", data:=.seq its.toArray n }) (hf:f { cls:=.type "list", data:=.seq its.toArray n }={ cls:=.type "list", data:=.seq its'.toArray n' }) (r:aR ys its') (hz:ys.length≤sizeLine) (t:Nat) :
  Inv X pins σ (ax H p (.lst ys)) { s with heap:=s.heap.update p f,toks:=t }:=by
 have e:(s.heap.update p f).get? p=some { cls:=.type "list", data:=.seq its'.toArray n' }:=by
  rw [Heap.get?_update_self f ho (by rw [hf] <;> rfl),hf]
 refine I.write (x:=p) (e:=p) (by rw [h];trivial) (.inl rfl) (fun b u hb q=>(Heap.get?_update_other _ _ (Ne.symm hb)).trans q) ⟨_,e⟩ ?_
 exact⟨hz,its',n',r,e⟩
def Bg:V->V->V->Hp->(Hp->Prop)->Prop:=fun o i v H Q=>∃ p xs k j,o=.ref p/\i=.int k/\H p=some (.lst xs)/\tX xs.length k=some j/\Q (ax H p (.lst (xs.set j v)))
theorem eU:uK X Bg:=by
 intro pins s σ H o i v ov iv u Q I ro ri rv h
 obtain⟨p,xs,k,j,rfl,rfl,hp,hj,q⟩:=h
 cases ro
 obtain⟨t,rfl⟩:=ri
 obtain⟨its,n,r,ho,hz⟩:=I.lst hp
 obtain⟨h1,h2,h3,h4⟩:=oP hj
 have hl:=r.length
 have hn:=iY
 have I':Inv X pins σ (ax H p (.lst (xs.set j v))) { s with heap:=s.heap.update p (Obj.mapSeq (·.setIfInBounds j u)) }:=
  I.lstUpd hp ho (nI its n j u) (r.set rv j) (by rw [List.length_set];exact hz) s.toks
 by_cases h0:0≤k
 ·have hk:k.toNat=j:=by
   rw [seqIndex_of h0 h4] at h1
   exact Option.some.inj h1
  exact PySem.W.ki_setAt ho h0 (by omega) (by rw [List.size_toArray,← hl];exact h4) (by rw [hk];exact⟨_,I',q⟩)
 ·have hk:(k+(its.toArray.size:Int)).toNat=j:=by
   rw [seqIndex_neg (by omega) h3] at h1
   rw [List.size_toArray,← hl]
   exact Option.some.inj h1
  exact PySem.W.ki_setBack ho (by omega) (by rw [List.size_toArray,← hl];exact h3) (by omega) (by rw [hk];exact⟨_,I',q⟩)
theorem kj (lo hi:Option Int) (n:Nat):(sliceBounds lo hi none n).1=((HT.sIx n 0 lo:Nat):Int)/\(sliceBounds lo hi none n).2.1=((HT.sIx n n hi:Nat):Int)/\(sliceBounds lo hi none n).2.2=1:=by
 refine⟨?_,?_,rfl⟩
 ·cases lo with
  | none=>simp [sliceBounds,HT.sIx]
  | some i=>
   simp only [sliceBounds,HT.sIx,Option.getD_none,show (1:Int) > 0 by decide,if_true]
   by_cases h:i < 0
   ·simp only [h,if_true] <;> omega
   ·simp only [h,if_false] <;> omega
 ·cases hi with
  | none=>simp [sliceBounds,HT.sIx]
  | some i=>
   simp only [sliceBounds,HT.sIx,Option.getD_none,show (1:Int) > 0 by decide,if_true]
   by_cases h:i < 0
   ·simp only [h,if_true] <;> omega
   ·simp only [h,if_false] <;> omega
theorem jr (its:List Value) (lo hi:Option Int):slicePick its.toArray lo hi none=((its.drop (HT.sIx its.length 0 lo)).take (HT.sIx its.length its.length hi - HT.sIx its.length 0 lo)).toArray:=by
 obtain⟨h1,h2,h3⟩:=kj lo hi its.toArray.size
 unfold slicePick
 rw [h1,h2,h3]
 simp only [sliceRange_one,pick_run,List.size_toArray] <;> rfl
def CZ (K:PySem.W.Frag):V->Option Int->Option Int->Hp->VK->Prop:=fun x lo hi H Q=>∃ a xs,x=.ref a/\aF K H a xs/\∀ p,H p=none->Q (.ref p) (ax H p (.lst (eP xs lo hi)))
theorem kl:qx X (CZ X.K):=by
 intro pins s σ H x v vl vu lo hi sl Q I rx hs pl pu h
 obtain⟨a,xs,rfl,hx,q⟩:=h
 cases rx
 obtain⟨its,r,ht,hz⟩:=I.list hx
 have hlen:=r.length
 refine⟨"list", _,slot_list_getitem.lookup,ht.isList.typeIs,?_⟩
 refine wpAny_getItem_list_slice ht.isList hs pl pu .none (by simp) ?_ (by rw [List.size_toArray] <;> omega)
 rw [jr,← hlen]
 refine⟨.ref s.heap.objs.size,_,I.laid (t':=s.toks) (o:=.lst (eP xs lo hi)) (fun b ob q=>Heap.get?_push_of_some _ q) (Nat.le_refl _) ?_,rfl,q _ (I.hok.fresh (Nat.le_refl _))⟩
 exact⟨Nat.le_trans (hU xs lo hi) hz,_,0,(r.drop (HT.sIx xs.length 0 lo)).take (HT.sIx xs.length xs.length hi - HT.sIx xs.length 0 lo),Heap.get?_push_size _ rfl⟩
def gz:V->Bool
 | .non=>true
 | .bl _=>true
 | .int _=>true
 | .str _=>true
 | _=>false
def xu:V->V->Bool
 | .non,.non=>true
 | .bl a,.bl b=>a == b
 | .bl a,.int b=>(if a then 1 else 0) == b
 | .int a,.bl b=>a == (if b then 1 else 0)
 | .int a,.int b=>a == b
 | .str a,.str b=>a == b
 | _,_=>false
theorem z6 {A:Around} {s:Shared} {y x:V} {u v:Value} (ry:aO y u) (rx:aO x v) (fy:gz y=true) (fx:gz x=true):SeqAt.EqAt A s u v (xu y x):=by
 cases y with
 | non=>
  cases ry
  cases x with
  | non=>cases rx;exact SeqAt.EqAt.same _
  | bl b=>cases rx;exact SeqAt.EqAt.none_bool b
  | int b=>obtain⟨t,rfl⟩:=rx;exact SeqAt.EqAt.none_int b t
  | str b=>obtain⟨t,rfl⟩:=rx;exact SeqAt.EqAt.none_str b t
  | _=>exact absurd (show false=true from fx) Bool.false_ne_true
 | bl a=>
  cases ry
  cases x with
  | non=>cases rx;exact SeqAt.EqAt.bool_none a
  | bl b=>cases rx;exact SeqAt.EqAt.bool_bool a b
  | int b=>obtain⟨t,rfl⟩:=rx;exact SeqAt.EqAt.bool_int a b t
  | str b=>obtain⟨t,rfl⟩:=rx;exact SeqAt.EqAt.bool_str a b t
  | _=>exact absurd (show false=true from fx) Bool.false_ne_true
 | int a=>
  obtain⟨t',rfl⟩:=ry
  cases x with
  | non=>cases rx;exact SeqAt.EqAt.int_none a t'
  | bl b=>cases rx;exact SeqAt.EqAt.int_bool a t' b
  | int b=>obtain⟨t,rfl⟩:=rx;exact SeqAt.EqAt.int_int a t' b t
  | str b=>obtain⟨t,rfl⟩:=rx;exact SeqAt.EqAt.int_str a t' b t
  | _=>exact absurd (show false=true from fx) Bool.false_ne_true
 | str a=>
  obtain⟨t',rfl⟩:=ry
  cases x with
  | non=>cases rx;exact SeqAt.EqAt.str_none a t'
  | bl b=>cases rx;exact SeqAt.EqAt.str_bool a t' b
  | int b=>obtain⟨t,rfl⟩:=rx;exact SeqAt.EqAt.str_int a t' b t
  | str b=>obtain⟨t,rfl⟩:=rx;exact SeqAt.EqAt.str_str a t' b t
  | _=>exact absurd (show false=true from fx) Bool.false_ne_true
 | _=>exact absurd (show false=true from fy) Bool.false_ne_true
def ww (x:V) (u:Value):Bool:=match u with
 | .none=>xu .non x
 | .bool b=>xu (.bl b) x
 | .int i _=>xu (.int i) x
 | .str z _=>xu (.str z) x
 | _=>false
theorem ut {x y:V} {u:Value} (r:aO y u) (f:gz y=true):ww x u=xu y x:=by
 cases y with
 | non=>cases r;rfl
 | bl b=>cases r;rfl
 | int i=>obtain⟨t,rfl⟩:=r;rfl
 | str z=>obtain⟨t,rfl⟩:=r;rfl
 | _=>exact absurd (show false=true from f) Bool.false_ne_true
theorem kW {x:V}:∀ {xs:List V} {us:List Value},aR xs us->xs.all gz=true->us.any (ww x)=xs.any fun y=>xu y x
 | _,_,.nil,_=>rfl
 | y :: xs,u :: us,.cons r t,f=>by
  rw [List.all_cons,Bool.and_eq_true] at f
  rw [List.any_cons,List.any_cons,ut r f.1,kW t f.2]
theorem iW {A:Around} {s:Shared} {x:V} {v:Value} (rx:aO x v) (fx:gz x=true):∀ {xs:List V} {us:List Value},aR xs us->xs.all gz=true->∀ u∈us,SeqAt.EqAt A s u v (ww x u)
 | _,_,.nil,_=>fun u hu=>by cases hu
 | y :: xs,u :: us,.cons r t,f=>fun u' hu=>by
  rw [List.all_cons,Bool.and_eq_true] at f
  rcases List.mem_cons.mp hu with rfl | hu
  ·rw [ut r f.1];exact z6 r rx f.1 fx
  ·exact iW rx fx t f.2 u' hu
def BP (x:V) (xs:List V):Bool:=xs.any fun y=>xu y x
def D9 (K:PySem.W.Frag) (neg:Bool):R2:=fun x y H Q=>∃ p xs,y=.ref p/\(aF K H p xs∨bS K H p xs)/\gz x=true/\xs.all gz=true/\Q (.bl (if neg then !BP x xs else BP x xs)) H
theorem kC:eI X (compareOp .NotIn) (D9 X.K true):=by
 intro pins s σ H x y v u Q I rx ry h
 obtain⟨p,xs,rfl,hq,fx,fs,q⟩:=h
 cases ry
 rcases hq with hq | hq
 ·obtain⟨its,r,pl,hz⟩:=I.list hq
  refine SeqAt.notIn_listAt (ww x) pl.isList (fun w hw=>iW rx fx r fs w (by simpa using hw)) ⟨.bl _,H,I,rfl,?_⟩
  rw [show its.toArray.any (ww x)=its.any (ww x) by simp,kW r fs]
  exact q
 ·obtain⟨its,r,pl,hz⟩:=I.tuple hq
  refine SeqAt.notIn_tupleAt (ww x) pl (fun w hw=>iW rx fx r fs w (by simpa using hw)) ⟨.bl _,H,I,rfl,?_⟩
  rw [show its.toArray.any (ww x)=its.any (ww x) by simp,kW r fs]
  exact q
theorem aC:cB X (.builtin "len") (fun xs H Q=>∃ p ys,xs=[.ref p]/\(aF X.K H p ys∨bS X.K H p ys)/\Q (.int ys.length) H):=by
 intro pins s σ H xs us Q I r h
 obtain⟨p,ys,rfl,hq,q⟩:=h
 obtain⟨u,rfl,rx⟩:=eJ r
 cases rx
 have hn:=iY
 rcases hq with hq | hq
 ·obtain⟨its,r',pl,hz⟩:=I.list hq
  have hlen:=r'.length
  exact Calls.call_len_list pl.isList (by simp only [List.size_toArray] <;> omega) ⟨.int ys.length,H,I.tok _,⟨s.toks+1,by rw [List.size_toArray,hlen]⟩,q⟩
 ·obtain⟨its,r',pl,hz⟩:=I.tuple hq
  have hlen:=r'.length
  exact len_tuple pl (by simp only [List.size_toArray] <;> omega) ⟨.int ys.length,H,I.tok _,⟨s.toks+1,by rw [List.size_toArray,hlen]⟩,q⟩
theorem kT:cB X (.type "list") (fun xs H Q=>∃ p ys,xs=[.ref p]/\(aF X.K H p ys∨bS X.K H p ys)/\∀ l,H l=none->Q (.ref l) (ax H l (.lst ys))):=by
 intro pins s σ H xs us Q I r h
 obtain⟨p,ys,rfl,hq,q⟩:=h
 obtain⟨u,rfl,rx⟩:=eJ r
 cases rx
 have fin:∀ (its:List Value),aR ys its->ys.length≤sizeLine->∀ (h':Heap) (c':Nat),(∀ b o',s.heap.get? b=some o'->h'.get? b=some o')→
   h'.get? s.heap.objs.size=some { cls:=.type "list", dict:=none,data:=.seq its.toArray c',slots:=#[] }->EP X pins σ Q (.ref s.heap.objs.size) { s with heap:=h' }:=fun its r' hz h' c' kp e=>
  ⟨.ref s.heap.objs.size,_,I.laid (t':=s.toks) kp (Nat.le_refl _) (show bf X.prog X.w _ h' _ (.lst ys) from ⟨hz,its,c',r',e⟩),rfl,q _ (I.hok.fresh (Nat.le_refl _))⟩
 rcases hq with hq | hq
 ·obtain⟨its,r',pl,hz⟩:=I.list hq
  have hlen:=r'.length
  obtain⟨o,ho,hc,n,hd⟩:=pl.isList
  exact call_list_seq p (.inl rfl) ho hc hd (fun h' c' kp e=>fin its r' hz h' c' kp e) (by simp only [List.size_toArray] <;> omega)
 ·obtain⟨its,r',pl,hz⟩:=I.tuple hq
  have hlen:=r'.length
  obtain⟨o,ho,hc,n,hd⟩:=pl
  exact call_list_seq p (.inr rfl) ho hc hd (fun h' c' kp e=>fin its r' hz h' c' kp e) (by simp only [List.size_toArray] <;> omega)
theorem dI:cB X (.type "tuple") (fun xs H Q=>∃ p ys,xs=[.ref p]/\((aF X.K H p ys/\∀ l,H l=none->Q (.ref l) (ax H l (.tup ys)))∨(bS X.K H p ys/\Q (.ref p) H))):=by
 intro pins s σ H xs us Q I r h
 obtain⟨p,ys,rfl,h⟩:=h
 obtain⟨u,rfl,rx⟩:=eJ r
 cases rx
 rcases h with ⟨hq,q⟩ | ⟨hq,q⟩
 ·obtain⟨its,r',pl,hz⟩:=I.list hq
  have hlen:=r'.length
  refine call_tuple_list pl.isList (fun h' kp=>?_) (by simp only [List.size_toArray] <;> omega)
  have I1:Inv X pins σ H { s with heap:=h' }:=I.kept (t':=s.toks) kp
  have I2:Inv X pins σ (ax H h'.objs.size (.tup ys)) { s with heap:=h'.push { cls:=.type "tuple", data:=.seq its.toArray } }:=
   I1.laid (t':=s.toks) (fun b o e=>Heap.get?_push_of_some _ e) (Nat.le_refl _) (show bf X.prog X.w _ _ _ (.tup ys) from ⟨hz,its,r',IsTup.new _ _⟩)
  exact⟨.ref h'.objs.size,_,I2,rfl,q _ (I1.hok.fresh (Nat.le_refl _))⟩
 ·obtain⟨its,r',pl,hz⟩:=I.tuple hq
  exact call_tuple_same pl ⟨.ref p,H,I,rfl,q⟩
def CN (K:PySem.W.Frag) (T:String) (x:V) (H:Hp):Prop:=match x with
 | .str _=>T = "str"
 | .int _=>T = "int"
 | .ref p=>(T = "list" /\ ∃ xs,aF K H p xs)∨(T = "tuple" /\ ∃ o,K.lookup p=some o/\o.cls=.type "tuple" /\ o.dict=none)∨
   (T = "dict" /\ ((∃ kvs,H p=some (.dK kvs))∨∃ kvs,H p=some (.dT kvs)))∨(T = "set" /\ ∃ S n,H p=some (.set S n))
 | _=>False
theorem xK {pins:List (Addr×Obj)} {σ:St} {H:Hp} {s:Shared} {T:String} {x:V} {v:Value} (I:Inv X pins σ H s) (r:aO x v) (ty:CN X.K T x H) :
  s.TypeIs v T/\∀ a,v=.ref a->∃ ob,s.heap.get? a=some ob/\ob.dict=none:=by
 cases x with
 | str z=>
  obtain⟨t,rfl⟩:=r
  cases (show T = "str" from ty)
  exact⟨typeIs_str s z t,fun _ e=>nomatch e⟩
 | int i=>
  obtain⟨t,rfl⟩:=r
  cases (show T = "int" from ty)
  exact⟨typeIs_int s i t,fun _ e=>nomatch e⟩
 | ref p=>
  cases r
  rcases ty with ⟨rfl,xs,hq⟩ | ⟨rfl,o,hk,hc,hd⟩ | ⟨rfl,hk⟩ | ⟨rfl,S,n,hk⟩
  ·obtain⟨its,_,pl,_⟩:=I.list hq
   refine⟨pl.isList.typeIs,fun a e=>?_⟩
   cases e
   obtain⟨o,n,e,c,hd,_⟩:=pl
   exact⟨o,e,hd⟩
  ·refine⟨⟨o,I.kIn p o hk,hc⟩,fun a e=>?_⟩
   cases e
   exact⟨o,I.kIn _ o hk,hd⟩
  ·have z:∃ o,s.heap.get? p=some o/\o.ExactDict:=by
    rcases hk with ⟨kvs,hk⟩ | ⟨kvs,hk⟩
    ·obtain⟨_,_,_,_,o,_,_,e,ex,_⟩:=I.hok p _ hk
     exact⟨o,e,ex⟩
    ·obtain⟨_,_,_,_,o,_,_,e,ex,_⟩:=I.hok p _ hk
     exact⟨o,e,ex⟩
   obtain⟨o,e,ex⟩:=z
   refine⟨⟨o,e,ex.1⟩,fun a e2=>?_⟩
   cases e2
   exact⟨o,e,ex.2.1⟩
  ·obtain⟨o,_,_,_,e,ex,_⟩:=I.hok p _ hk
   refine⟨⟨o,e,ex.1⟩,fun a e2=>?_⟩
   cases e2
   exact⟨o,e,ex.2.1⟩
 | _=>exact False.elim ty
def EZ (K:PySem.W.Frag) (T:String) (r:V->List V->Hp->VK->Prop) (to:TE):TE:=fun σ H Q=>to σ H fun x H1=>CN K T x H1/\r x [] H1 Q
def DS (K:PySem.W.Frag) (T:String) (r:V->List V->Hp->VK->Prop) (to:TE) (t:TA):TE:=fun σ H Q=>to σ H fun x H1=>CN K T x H1/\t σ H1 fun xs H2=>r x xs H2 Q
variable {o e:Expr} {es:List Expr} {to:TE} {t:TA} {name:Str} {apos cpos:Pos} {T id:String} {r:V->List V->Hp->VK->Prop}
theorem Bx (pa:PlainAttrs T) (slot:Slot T name id) (hty:typeOf (.builtin id)=pure (.type "method_descriptor")) (hm:EB X id r) (ho:PE X o to) (ha:PA X (e :: es) t)
  (hbase:attributeBase o name X.env (eval o X.env)=eval o X.env:=by rfl)
  (hfew:((backTo cpos (starEach (e :: es) X.env)).all (fun x=>!x.1) && (backToKw cpos (keywordEach [] X.env)).all (fun x=>x.1.isSome)
   && decide ((e :: es).length+([]:List Keyword).length+(if ([]:List Keyword).isEmpty then 0 else 1) < 30))=true:=by rfl)
  (hline:(apos.endLine == cpos.line)=true:=by rfl) (hs:starEach (e :: es) X.env=(false,eval e X.env) :: starEach es X.env:=by rfl) (hplain:(backTo cpos (starEach es X.env)).any (·.1)=false:=by rfl) :
  PE X (.Call (.Attribute o name apos) (e :: es) [] cpos) (DS X.K T r to t):=by
 intro pins s σ H Q I h
 refine wpAny_Call_method_late hbase hfew hline rfl (bc (ho pins s σ H _ I h) fun v s1 ⟨x,H1,I1,r1,ty,q1⟩=>?_)
 obtain⟨h1,h2⟩:=xK I1 r1 ty
 refine⟨T,id,pa,slot,hty,h1,h2,?_⟩
 have hA:=ha cpos pins s1 σ H1 _ I1 q1
 rw [hs] at hA ⊢
 refine Calls.callWith_builtin (by show (false || (backTo cpos (starEach es X.env)).any (·.1))=false;rw [hplain] <;> rfl) (Calls.evalArgs_plain ?_)
 exact bc hA fun us s2 ⟨vs,H2,I2,r2,q2⟩=>hm pins s2 σ H2 x vs v us Q I2 r1 r2 q2
end
end L2
namespace L2
open PySem PySem.Spec PyProof.Rows
def Ft (X:Cx) (id:String) (r:V->List V->Hp->VK->Prop):Prop:=
 ∀ (pins:List (Addr×Obj)) (s:Shared) (σ:St) (H:Hp) (x:V) (xs:List V) (v:Value) (us:List Value) (Q:VK),Inv X pins σ H s->aO x v->aR xs us->r x xs H Q→
  wpAny (model X.prog X.w) X.A (call (.builtin id) (v :: us)) (EP X pins σ Q) X.xe s
theorem aR.one:∀ {x:V} {us:List Value},aR [x] us->∃ u,us=[u]/\aO x u
 | _,_,.cons r .nil=>⟨_,rfl,r⟩
section
variable {X:Cx} {pins:List (Addr×Obj)} {σ:St} {H:Hp} {s:Shared} {l b:Addr} {xs ys zs:List V}
theorem Inv.lset {its its':List Value} {n:Nat} {f:Array Value->Array Value} {t':Nat} (I:Inv X pins σ H s) (hH:H l=some (.lst xs))
  (e:s.heap.get? l=some { cls:=.type "list", data:=.seq its.toArray n }) (hf:f its.toArray=its'.toArray) (hv:aR ys its') (hz:ys.length≤sizeLine) :
  Inv X pins σ (ax H l (.lst ys)) { s with heap:=s.heap.update l (Obj.mapSeq f),toks:=t' }:=by
 have q:=PySem.IsL.update e f
 rw [hf] at q
 refine I.write (x:=l) (e:=l) (by rw [hH];exact trivial) (.inl rfl) (fun b' u hb hu=>(Heap.get?_update_other s.heap (Obj.mapSeq f) (Ne.symm hb)).trans hu) ⟨_,q⟩ ?_
 exact⟨hz,its',_,hv,q⟩
theorem Inv.lnew {its:List Value} {t':Nat} (I:Inv X pins σ H s) (hv:aR ys its) (hz:ys.length≤sizeLine) :
  Inv X pins σ (ax H s.heap.objs.size (.lst ys)) { s with heap:=s.heap.push { cls:=.type "list", data:=.seq its.toArray },toks:=t' }:=
 I.laid (fun _ _ q=>Heap.get?_push_of_some _ q) (Nat.le_refl _) ⟨hz,its,0,hv,Heap.get?_push_size _ rfl⟩
theorem Inv.fresh (I:Inv X pins σ H s):H s.heap.objs.size=none:=I.hok.fresh (Nat.le_refl _)
theorem Inv.lstM (I:Inv X pins σ H s) (hH:H l=some (.lst xs)):xs.length≤sizeLine/\∃ (its:List Value) (n:Nat),aR xs its/\xs.length=its.length/\s.heap.get? l=some { cls:=.type "list", data:=.seq its.toArray n }:=by
 obtain⟨z,its,n,r,e⟩:=I.hok l _ hH
 exact⟨z,its,n,r,r.length,e⟩
end
section
variable {X:Cx}
def vd:V->List V->Hp->VK->Prop:=fun x vs H Q=>∃ l xs y,x=.ref l/\vs=[y]/\H l=some (.lst xs)/\xs.length < sizeLine/\Q .non (ax H l (.lst (xs++[y])))
theorem ck:Ft X "list.append" vd:=by
 intro pins s σ H x vs v us Q I rx rv h
 obtain⟨l,xs,y,rfl,rfl,hH,hz,q⟩:=h
 cases rx
 obtain⟨u,rfl,ru⟩:=rv.one
 obtain⟨z,its,n,r,hl,e⟩:=I.lstM hH
 refine call_meets F.slot_list_append ⟨_,e,rfl⟩ F.entry_list_append (F.args_list_append_2 _ _) (PySem.list_append l its.toArray n u (by rw [List.size_toArray];omega)) ⟨e,?_⟩
 refine⟨.non,_,I.lset (its':=its++[u]) hH e (by simp) (r.append (.cons ru .nil)) ?_,rfl,q⟩
 rw [List.length_append,List.length_singleton]
 omega
def CC:V->List V->Hp->VK->Prop:=fun x vs H Q=>∃ l b xs zs,x=.ref l/\vs=[.ref b]/\H l=some (.lst xs)/\H b=some (.lst zs)/\xs.length+zs.length≤sizeLine/\Q .non (ax H l (.lst (xs++zs)))
def E5:V->List V->Hp->VK->Prop:=fun x vs H Q=>∃ l xs y,x=.ref l/\vs=[]/\H l=some (.lst xs)/\xs[xs.length - 1]?=some y/\Q y (ax H l (.lst xs.dropLast))
def C0:V->List V->Hp->VK->Prop:=fun x vs H Q=>∃ l xs i k y,x=.ref l/\vs=[.int i]/\H l=some (.lst xs)/\-(2 ^ 63)≤i/\i < 2 ^ 63/\seqIndex? i xs.length=some k/\xs[k]?=some y/\Q y (ax H l (.lst (xs.eraseIdx k)))
def Bh:V->List V->Hp->VK->Prop:=fun x vs H Q=>∃ l xs,x=.ref l/\vs=[]/\H l=some (.lst xs)/\Q .non (ax H l (.lst xs.reverse))
def C9:V->List V->Hp->VK->Prop:=fun x vs H Q=>∃ l xs,x=.ref l/\vs=[]/\H l=some (.lst xs)/\Q .non (ax H l (.lst []))
def Da:R2:=fun x y H Q=>∃ l b xs zs,x=.ref l/\y=.ref b/\H l=some (.lst xs)/\H b=some (.lst zs)/\xs.length+zs.length≤sizeLine/\∀ p,H p=none->Q (.ref p) (ax H p (.lst (xs++zs)))
theorem kD:eI X (binaryOp .Add) Da:=by
 intro pins s σ H x y v u Q I rx ry h
 obtain⟨l,b,xs,zs,rfl,rfl,hH,hB,hz,q⟩:=h
 cases rx
 cases ry
 obtain⟨z,its,n,r,hl,e⟩:=I.lstM hH
 obtain⟨z2,its2,n2,r2,hl2,e2⟩:=I.lstM hB
 refine PySem.P.add_list e e2 ?_ (by rw [List.size_toArray,List.size_toArray];omega)
 have ea:its.toArray++its2.toArray=(its++its2).toArray:=by simp
 rw [ea]
 exact⟨.ref _,_,I.lnew (t':=s.toks) (r.append r2) (by rw [List.length_append];omega),rfl,q _ I.fresh⟩
def E4:R2:=fun x y H Q=>∃ l k xs,x=.ref l/\y=.int k/\H l=some (.lst xs)/\-(2 ^ 63)≤k/\k < 2 ^ 63/\xs.length * k.toNat≤sizeLine∧
 ∀ p,H p=none->Q (.ref p) (ax H p (.lst (List.replicate k.toNat xs).flatten))
end
section
variable {prog:Program} {w:World} {A:Around} {E:Value->Shared->Prop} {s:Shared}
end
section
variable {X:Cx}
end
end L2
namespace Att
open PySem PySem.W PySem.Calls PyProof.Rows
theorem ic {P:Params} {h:Heap}:∀ (ns:List Int) (vs:List Value),WellAll P h vs (ns.map WData.int)->IntsAre vs ns:=by
 intro ns
 induction ns with
 | nil=>
  intro vs w
  rw [List.map_nil] at w
  cases w
  exact .nil
 | cons n ns ih=>
  intro vs w
  rw [List.map_cons] at w
  cases w with
  | cons a b=>
   cases a
   exact .cons _ _ (ih _ b)
theorem pI {l:OpenLaw} {n:Nat} (hn:l.most=some n) {P:Params} {h:Heap} {args:List WData} {vals:List Value}
  (hpre:l.row.toRowW.claim.pre args=true) (hwl:WellAll P h vals args) :
  ∃ a vs ns,vals=[Value.ref a]/\args=[WData.list (ns.map WData.int)]/\h.get? a=some { cls:=.type "list", data:=.seq vs.toArray }/\IntsAre vs ns/\ns.length≤n:=by
 have hsh:WShape.hasAll [] args [.list .int]=true:=(pre_splitW hpre).1
 have hc:l.pre.holds [] { args:=args }=true:=(pre_splitW hpre).2
 obtain⟨d,r,rfl,h1,h2⟩:=hasAllW_cons hsh
 obtain rfl:=hasAllW_nil h2
 obtain⟨xs,rfl,h3⟩:=hasW_list h1
 obtain⟨ns,rfl⟩:=items_int h3
 have hlen:ns.length≤n:=by
  unfold OpenLaw.pre at hc
  have h4:(WTm.not (.lt (.lit (.int (n:Int))) (.len (.arg 0)))).holds [] { args:=[.list (ns.map .int)] }=true:=by
   have h4:=(holds_andW hc).1
   rw [hn] at h4
   exact h4
  have h5:=condW_of h4 (w_not (w_lt w_lit (w_len_list (w_arg rfl))))
  rw [List.length_map] at h5
  refine Nat.le_of_not_lt fun q=>?_
  have q':(n:Int) < ((ns.length:Nat):Int):=by omega
  first
   | (rw [decide_eq_true q'] at h5;exact absurd h5 (by decide))
   | (simp at h5;omega)
 cases hwl with
 | cons w1 w2=>
  cases w2
  cases w1 with
  | list ho hall=>exact⟨_,_,ns,rfl,rfl,ho,ic ns _ hall,hlen⟩
theorem pP (l:OpenLaw) (args:List WData):l.row.toRowW.claim.post args (.bool true) args=true:=
 postW_of (r:=l.row.toRowW) (X:=(true == true))
  (show WShape.has [] (.bool true) .bool=true by first | rfl | decide | simp [WShape.has,WShape.arms,WShape.armsAll])
  (show (WTm.eq .res (.lit (.bool true))).value [] { args:=args,res:=some (.bool true),after:=args }=some (.bool (true == true)) from w_eq_bool (w_res rfl) w_lit) rfl
theorem attach_call {l:OpenLaw} {n:Nat} {q:Program} {loose:List Str} {XP:(Str->Option Value)->Heap->Prop} {YP:World->Heap->Prop} {d:DefRec}
  (hn:l.most=some n) (hdf:d.params.defaults=[])
  (call:∀ (w:World) (s₀ s₁:Shared) (mg mb:Str->Option Value) (fa:Addr) (o:Obj) (pm cd doc:Value) (a:Addr) (vs:List Value) (ns:List Int),
   Ground q loose [] XP w s₀ mg mb s₁.heap->YP w s₁.heap→
   s₁.heap.get? fa=some o->o.data=.func (docDef d.name d.params d.body d.scope pm cd doc)->s₁.heap.CodeRec cd d.name->mg d.name=some (.ref fa)→
   s₁.heap.get? a=some { cls:=.type "list", data:=.seq vs.toArray }->IntsAre vs ns->ns.length≤n->s₁.gens=#[]→
   codeAny (model l.prog w) callerA (.call (.ref fa) ⟨[.ref a],[]⟩) (fun r s'=>r=.ok (.ret (.bool true))/\OldK s₁.heap s'.heap/\s'.os=s₁.os/\AllBare s'.gens) s₁) :
  WalkO q loose XP YP l.row.toRowW d [] (fun f vs=>PySem.call f vs):=by
 intro w s₀ s₁ mg mb G Y fa o pm cd doc dV kV ho hd hcd hD hmg hg args vals as hpre hlay hrd hwl hlo
 obtain rfl:dV=.none:=Dflts.none hD hdf
 obtain rfl:kV=.none:=Dflts.noKw hD
 obtain⟨a,vs,ns,rfl,rfl,hobj,hints,hlen⟩:=pI hn hpre hwl
 refine enter_call (codeAny_mono (call w s₀ s₁ mg mb fa o pm cd doc a vs ns G Y ho (fd_plain hd) hcd hmg hobj hints hlen hg) fun r s' hq=>?_)
 obtain⟨rfl,h2,h3,h4⟩:=hq
 exact⟨.inl ⟨.bool true,.bool true,[],rfl,fun _=>rfl,.bool true,pP l _,fun _=>⟨List.Pairwise.nil,fun _ hm=>(nomatch hm)⟩⟩,h2,h3,h4⟩
section
variable {prog:Program} {w:World} {A:Around} {E:Value->Shared->Prop} {s:Shared} {K:Frag}
def Dc (h:Heap):Heap:={ h with objs:=#[] }
def Df (h:Heap) (L d:Addr):List (Addr×Obj):=(List.range h.objs.size).filterMap fun a=>if a=L∨a=d then none else (h.get? a).map fun o=>(a,o)
end
end Att
namespace L2
open PySem PySem.Spec PyProof.Rows
theorem jA:∀ {vs:List Value} {ns:List Int},IntsAre vs ns->aR (ns.map V.int) vs
 | _,_,.nil=>.nil
 | _,_,.cons n t h=>.cons ⟨t,rfl⟩ (jA h)
def Ap (H:Hp):Prop:=∀ b,H b=none∨∃ o xs,H b=some (.frz o (.lst xs))
theorem tV {P:Program} {w:World} {K:PySem.W.Frag} {mg mb:Str->Option Value} {CX:mD} {k:Nat} {fa a:Addr} {fd:FuncData} {x:Str} {sp:Sp} {s₁:Shared} {vs:List Value} {ns:List Int}
  (KX:K.In s₁.heap) (hns:s₁.heap.Ns mainGlobals mg) (hb:s₁.heap.Ns builtinsNs mb) (hbb:∀ x:Str,x ≠ "__name__" -> mb x=bootBuiltins x) (hlim:s₁.heap.NoLimit) (hg:s₁.gens=#[])
  (ha:s₁.heap.get? a=some { cls:=.type "list", data:=.seq vs.toArray }) (hi:IntsAre vs ns) (hl:ns.length≤sizeLine) (hr:cr k callerA)
  (F:∀ base:Heap,K.In base->base.Ns mainGlobals mg->bh P w K mg base CX k fa fd [x] sp) (hbind:∀ (s:Shared) (u:Value),BindsTo s fd ⟨[u],[]⟩ [(x,u)])
  (hsp:∀ H:Hp,Ap H->aF K H a (ns.map V.int)->sp [.ref a] H (fun v _=>v=.bl true) fun _ _ _=>False)
  (hCX:∀ H e s',CX [] H s₁ (fun _ _ _=>False) e s'->False) :
  codeAny (model P w) callerA (.call (.ref fa) ⟨[.ref a],[]⟩) (fun r s'=>r=.ok (.ret (.bool true))/\OldK s₁.heap s'.heap/\s'.os=s₁.os/\AllBare s'.gens) s₁:=by
 have rv:=jA hi
 have lenV:=hi.length
 have core:∀ H:Hp,Ap H->aF K H a (ns.map V.int)->fN P w H s₁.heap->(∀ b,H b≠none->b=a)->(H a≠none->K.lookup a=none)→
   codeAny (model P w) callerA (.call (.ref fa) ⟨[.ref a],[]⟩) (fun r s'=>r=.ok (.ret (.bool true))/\OldK s₁.heap s'.heap/\s'.os=s₁.os/\AllBare s'.gens) s₁:=by
  intro H hO hS hok hA hK
  have base_of:∀ {b:Addr} {o:Obj},s₁.heap.get? b=some o->H b=none->(kM s₁.heap H).get? b=some o:=fun e n=>ud e n
  have noA:∀ {b:Addr} {o:Obj} {es:Array DictEntry} {ep:Nat},s₁.heap.get? b=some o->o.data=.dict es ep->H b=none:=fun {b o es ep} e d=>by
   cases q:H b with
   | none=>rfl
   | some u=>
    have e':b=a:=hA b (by rw [q];simp)
    subst e'
    rw [ha] at e;cases e
    have d':Data.seq vs.toArray _=Data.dict es ep:=d
    cases d'
  have nsK:∀ {b:Addr} {m:Str->Option Value},s₁.heap.Ns b m->(kM s₁.heap H).Ns b m:=fun {b m} ⟨o,es,ep,e,d,r⟩=>⟨o,es,ep,base_of e (noA e d),d,r⟩
  have hKb:K.In (kM s₁.heap H):=fun b o e=>base_of (KX b o e) (by
   cases q:H b with
   | none=>rfl
   | some u=>
    have e':b=a:=hA b (by rw [q];simp)
    subst e'
    rw [hK (by rw [q];simp)] at e;cases e)
  have hM:Mod K mg (kM s₁.heap H):=⟨hKb,nsK hns,⟨mb,nsK hb,hbb⟩,let ⟨mc,h1,h2⟩:=hlim;⟨mc,nsK h1,h2⟩⟩
  have e0:mB P w K mg (kM s₁.heap H) callerA [] s₁ H:=⟨rfl,hM,fun b o e=>vV e,Nat.le_of_eq (p9 _ _),trivial,fun b hb=>absurd (show b∈([]:List Addr) from hb) (by simp),hok,.of_eq hg⟩
  refine codeAny_mono ((F _ hKb (nsK hns)).run callerA [] s₁ H ⟨[.ref a],[]⟩ [.ref a] [.ref a] _ _ hr e0 (hbind s₁ (.ref a)) (.cons rfl .nil) (hsp H hO hS)) fun r s' h=>?_
  cases r with
  | error e=>exact (hCX H e s' h).elim
  | ok fl=>
   cases fl with
   | next=>exact False.elim h
   | brk=>exact False.elim h
   | cont=>exact False.elim h
   | ret u=>
    obtain⟨v,H',os,bare,un,hok',r',q⟩:=h
    have q':v=.bl true:=q
    subst q'
    obtain rfl:u=Value.bool true:=r'
    refine⟨rfl,OldK.of_keep fun b o e=>?_,os,bare⟩
    cases q:H b with
    | none=>exact un.keep b o e q (by intro z;exact absurd (show b∈([]:List Addr) from z) (by simp)) (by simp)
    | some u=>
     rcases hO b with z | ⟨ob,xs,z⟩
     ·rw [q] at z;cases z
     ·have z2:=un.frzs b ob _ z
      obtain⟨e1,_⟩:=hok b _ z
      obtain⟨e2,_⟩:=hok' b _ z2
      rw [e] at e1;cases e1
      exact e2
 cases hk:K.lookup a with
 | some o=>
  have e:=KX a o hk
  rw [ha] at e
  cases e
  refine core (fun _=>none) (fun _=>.inl rfl) (.inr ⟨_,vs.toArray,_,hk,rfl,rfl,rfl,by rw [List.size_toArray,lenV];exact hl,by simpa using rv⟩) (fun b u z=>by have z':(none:Option HO)=some u:=z;cases z') (fun b z=>absurd rfl z) fun z=>absurd rfl z
 | none=>
  refine core (fun b=>if b=a then some (.frz { cls:=.type "list", data:=.seq vs.toArray } (.lst (ns.map V.int))) else none) (fun b=>?_) (.inl (.inr ⟨{ cls:=.type "list", data:=.seq vs.toArray },if_pos rfl⟩)) (fun b u z=>?_) (fun b z=>?_) fun _=>hk
  ·by_cases hb:b=a
   ·exact .inr ⟨_,_,if_pos hb⟩
   ·exact .inl (if_neg hb)
  ·by_cases hb:b=a
   ·have z':=(if_pos hb).symm.trans z
    cases z'
    subst hb
    exact⟨ha,by rw [List.length_map];exact hl,vs,_,rv,ha⟩
   ·have z':=(if_neg hb).symm.trans z
    cases z'
  ·by_cases hb:b=a
   ·exact hb
   ·exact absurd (if_neg hb) z
end L2
namespace L2
open PySem PySem.Spec PyProof.Rows
abbrev F0 {K:PySem.W.Frag} {h:Heap} (_:K.In h):PySem.W.Frag:=K
theorem walk_of {l:PySem.W.OpenLaw} {n k:Nat} {q:Program} {loose:List Str} {XP:(Str->Option Value)->Heap->Prop} {YP:World->Heap->Prop} {d:DefRec} {K:Params->PySem.W.Frag} {CX:World->mD} {sp:World->Sp} {x:Str}
  (hn:l.most=some n) (hn2:n≤sizeLine) (hdf:d.params.defaults=[]) (hr:cr k callerA)
  (hY:∀ (w:World) (h:Heap),YP w h->(K w.params).In h)
  (F:∀ (w:World) (mg:Str->Option Value) (fa:Addr) (h:Heap),(K w.params).In h->h.Ns mainGlobals mg->mg d.name=some (.ref fa)→
   ∃ fd:FuncData,(∀ (s:Shared) (u:Value),BindsTo s fd ⟨[u],[]⟩ [(x,u)])∧
    ∀ base:Heap,(K w.params).In base->base.Ns mainGlobals mg->bh l.prog w (K w.params) mg base (CX w) k fa fd [x] (sp w))
  (hsp:∀ (w:World) (H:Hp) (a:Addr) (ns:List Int),ns.length≤n->Ap H->aF (K w.params) H a (ns.map V.int)->sp w [.ref a] H (fun v _=>v=.bl true) fun _ _ _=>False)
  (hCX:∀ (w:World) (H:Hp) (s:Shared) (e:Value) (s':Shared),CX w [] H s (fun _ _ _=>False) e s'->False) :
  PySem.W.WalkO q loose XP YP l.row.toRowW d [] (fun f vs=>PySem.call f vs):=by
 refine Att.attach_call hn hdf fun w s₀ s₁ mg mb fa o pm cd doc a vs ns G Y ho hd hcd hmg hobj hints hlen hg=>?_
 have KX:=hY w _ Y
 obtain⟨fd,hb,hF⟩:=F w mg fa _ KX G.T.g hmg
 exact tV KX G.T.g G.T.b G.T.builtins G.T.nolimit hg hobj hints (Nat.le_trans hlen hn2) hr hF hb (fun H hO hS=>hsp w H a ns hlen hO hS) fun H e s'=>hCX w H s₁ e s'
end L2
namespace L2
open PySem PySem.Spec PyProof.Rows
def cS (s:Stmt) (j:Nat):Stmt:=match s with
 | .ClassDef _ _ _ body _ _ _ _ _ _ _=>body.getD j (.Pass ⟨0,0,0,0⟩)
 | _=>.Pass ⟨0,0,0,0⟩
def cK (s:Stmt):Arguments:=match s with
 | .FunctionDef _ a _ _ _ _ _ _ _ _=>a
 | _=>{ posonlyargs:=[],args:=[],vararg:=none,kwonlyargs:=[],kw_defaults:=[],kwarg:=none,defaults:=[] }
def cy (s:Stmt):List Stmt:=match s with
 | .FunctionDef _ _ b _ _ _ _ _ _ _=>b
 | _=>[]
def au (s:Stmt):Scope:=match s with
 | .FunctionDef _ _ _ _ _ _ sc _ _ _=>sc
 | _=>{ kind:=.function,names:=[],isGenerator:=false,isCoroutine:=false }
abbrev dC:mD:=fun _ _ _ _ _ _=>False
abbrev E0:XK:=fun _ _ _=>False
theorem c6 {X:Cx}:dn dC X E0:=fun _ _ _ _ _ _ _ h=>h.elim
structure dy (K:PySem.W.Frag) (x qual:Str) (st:Stmt) (f:Addr) (fd:FuncData):Prop where
 ex:∃ (oc:Value) (od:Option Addr) (kV doc pm:Value) (an:Option Addr) (cdv ct:Value) (osl:Array (Option Value)),
  fd=PySem.W.fnOf x qual (cK st) (cy st) (au st) .none kV doc pm an cdv ct/\K.lookup f=some ⟨oc,od,.func fd,osl⟩/\PySem.W.codeIn K cdv qual=true
 kp:PySem.W.keepIn K (.ref f)=true
section
variable {P:Program} {w:World} {K:PySem.W.Frag} {mg:Str->Option Value} {base:Heap}
theorem dy.ok {x qual:Str} {st:Stmt} {f:Addr} {fd:FuncData} {N ps:List Str} {k:Nat} {sp:Sp} (F:dy K x qual st f fd) (S:aI N ps (au st)) (len:∀ vs H Q E,sp vs H Q E->vs.length=ps.length)
  (hbody:∀ (cdv:Value) (A:Around) (outer:List Env) (s:Shared) (H:Hp) (vs:List V) (Q:VK) (E:XK),cr k (A.deeper (envOfC qual (au st) s.heap.objs.size f cdv))->sp vs H Q E→
   ∃ t,oa (bO dC P w K mg base N qual (au st) f cdv A outer s H E).nox (cy st) t/\t { nx:=fun _ H'=>Q .non H',rt:=Q } (gT N vs) H):bh P w K mg base dC (k+1) f fd ps sp:=by
 obtain⟨oc,od,kV,doc,pm,an,cdv,ct,osl,rfl,lk,hcd⟩:=F.ex
 refine B1 lk hcd S len fun A outer s H vs Q E hr hsp=>?_
 obtain⟨t,h,q⟩:=hbody cdv A outer s H vs Q E hr hsp
 exact⟨t,h.nox,q⟩
theorem dy.binds {x qual:Str} {st:Stmt} {f:Addr} {fd:FuncData} {ps:List Str} (F:dy K x qual st f fd)
  (h:∀ (kV doc pm:Value) (an:Option Addr) (cdv ct:Value) (us:List Value),us.length=ps.length->bindArgs (PySem.W.fnOf x qual (cK st) (cy st) (au st) .none kV doc pm an cdv ct) ⟨us,[]⟩=pure (ps.zip us)):aM K fd ps []:=by
 obtain⟨oc,od,kV,doc,pm,an,cdv,ct,osl,rfl,lk,hcd⟩:=F.ex
 exact .all (h kV doc pm an cdv ct)
theorem uj {x qual:Str} {st:Stmt} {f:Addr} {oc:Value} {od an:Option Addr} {osl:Array (Option Value)} {kV doc pm cdv ct:Value} (l:K.lookup f=some ⟨oc,od,.func (PySem.W.fnOf x qual (cK st) (cy st) (au st) .none kV doc pm an cdv ct),osl⟩)
  (c:PySem.W.codeIn K cdv qual=true) (k:PySem.W.keepIn K (.ref f)=true):dy K x qual st f (PySem.W.fnOf x qual (cK st) (cy st) (au st) .none kV doc pm an cdv ct):=⟨⟨oc,od,kV,doc,pm,an,cdv,ct,osl,rfl,l,c⟩,k⟩
end
theorem dY {A:Around} {k:Nat} (hr:cr k A):A.units+1 < cLine:=Nat.lt_of_le_of_lt (Nat.add_le_add_left (by decide:1≤64) _) hr.units
theorem aZ {n:Nat} (h:n≤1000):n < sizeLine:=Nat.lt_of_le_of_lt h (by decide)
section
variable {X:Cx}
theorem pv (i:Nat) {x:Str} {pos:Pos} (hN:X.N[i]?=some x:=by rfl) (hv:B9 X.env.scope x:=by first | exact Or.inl rfl | exact Or.inr (Or.inl rfl) | exact Or.inr (Or.inr rfl)) (hd:(x == ("__debug__" : Str))=false:=by decide)
  (hcd:(x == ("__classdict__" : Str))=false:=by decide):PE X (.Name x pos) (xL i):=yS hN hv hd hcd
end
theorem ib {A B:Prop} (h:B):if false=true then A else B:=by
 rw [if_neg Bool.false_ne_true]
 exact h
theorem jt {A B:Prop} (h:A):if true=true then A else B:=by
 rw [if_pos rfl]
 exact h
theorem zT {c A B:Prop} [Decidable c] (h1:c->A) (h2:¬ c->B):if c then A else B:=by
 by_cases h:c
 ·rw [if_pos h]
  exact h1 h
 ·rw [if_neg h]
  exact h2 h
theorem tZ {c A B:Prop} [Decidable c] (hc:c) (h:B):if (!decide c)=true then A else B:=by
 rw [decide_eq_true hc]
 exact ib h
def az (H H':Hp):Prop:=∀ b o,H b=some o->H' b=some o
theorem az.refl (H:Hp):az H H:=fun _ _ h=>h
theorem az.trans {H H1 H2:Hp} (a:az H H1) (b:az H1 H2):az H H2:=fun c o h=>b c o (a c o h)
theorem az.seq {K:PySem.W.Frag} {H H':Hp} {a:Addr} {xs:List V} (e:az H H') (h:aF K H a xs):aF K H' a xs:=by
 rcases h with (h | ⟨o,h⟩) | h
 ·exact .inl (.inl (e _ _ h))
 ·exact .inl (.inr ⟨o,e _ _ h⟩)
 ·exact .inr h
end L2
set_option maxHeartbeats 4000000
namespace B
open PySem L2 PyProof.Rows
theorem BO {c A B:Prop} [Decidable c] (hc:¬ c) (h:A):if (!decide c)=true then A else B:=by
 have e:(!decide c)=true:=by rw [decide_eq_false hc];rfl
 rw [if_pos e];exact h
theorem cq {c A B:Prop} [Decidable c] (hc:c) (h:A):if decide c=true then A else B:=by
 rw [if_pos (decide_eq_true hc)];exact h
theorem ca {c A B:Prop} [Decidable c] (hc:¬ c) (h:B):if decide c=true then A else B:=by
 have e:¬ decide c=true:=by rw [decide_eq_false hc];intro z;cases z
 rw [if_neg e];exact h
theorem t4 {b:Bool} {A B:Prop} (hb:b=true) (h:A):if b=true then A else B:=by rw [if_pos hb];exact h
theorem t6 {b:Bool} {A B:Prop} (hb:b=false) (h:B):if b=true then A else B:=by
 rw [if_neg (by rw [hb];intro z;cases z)];exact h
def tW (A B:String):Option Bool:=if (Value.type A == Value.type B)=true then some true else if PySem.W.kitMeta B=true then (fastBuiltinMro A).map (·.contains (.type B)) else none
inductive Ty (H:Hp):V->String->Prop where
 | non:Ty H .non "NoneType"
 | bl (b:Bool):Ty H (.bl b) "bool"
 | int (i:Int):Ty H (.int i) "int"
 | str (x:Str):Ty H (.str x) "str"
 | lst {a:Addr} {xs:List V} (e:H a=some (.lst xs)):Ty H (.ref a) "list"
 | tup {a:Addr} {xs:List V} (e:H a=some (.tup xs)):Ty H (.ref a) "tuple"
def Fa:List V->Hp->VK->Prop:=fun xs H Q=>∃ x n m b,xs=[x,.ty n]/\Ty H x m/\tW m n=some b/\Q (.bl b) H
def CL:V->Bool
 | .int _=>true
 | _=>false
def EM (n:String):Bool:=n == "tuple"
structure wJ (t:Addr) (H H':Hp):Prop where
 keep:∀ b o,b≠t->H b=some o->H' b=some o
 tp:∃ xs,H t=some (.lst xs)
 tp':∃ xs,H' t=some (.lst xs)
theorem wJ.up {t:Addr} {H:Hp} {xs ys:List V} (h:H t=some (.lst xs)):wJ t H (ax H t (.lst ys)):=⟨fun c o n e=>by rw [aj n];exact e,⟨_,h⟩,⟨_,ae⟩⟩
theorem ai {H:Hp} {p:Addr} (h:H p=none) (o:HO):az H (ax H p o):=fun b u q=>by rw [aj (ay q h)];exact q
def Th (H:Hp) (v:V):Prop:=∃ n,Ty H v n/\∀ a xs,v=.ref a->H a=some (.tup xs)->∀ x∈xs,∃ m,Ty H x m
theorem Db {xs:List V} {r:Int} (h0:0≤r) (h1:r < (xs.length:Int)):∃ v,mC xs r=some v/\v∈xs:=by
 have hk:r.toNat < xs.length:=by omega
 have ek:r=((r.toNat:Nat):Int):=by omega
 have q:mC xs ((r.toNat:Nat):Int)=some xs[r.toNat]:=aJ (List.getElem?_eq_getElem hk)
 rw [← ek] at q
 exact⟨_,q,List.getElem_mem hk⟩
theorem xj {ns:List Int} {r:Int} (h0:0≤r) (h1:r < (ns.length:Int)):∃ z:Int,mC (ns.map V.int) r=some (.int z):=by
 obtain⟨v,h,hv⟩:=Db (xs:=ns.map V.int) h0 (by rw [List.length_map];exact h1)
 obtain⟨z,_,rfl⟩:=List.mem_map.mp hv
 exact⟨z,h⟩
structure Ak (H:Hp) (t s:Addr):Prop where
 ex:∃ (ns:List Int) (p q r:Int),H t=some (.lst [.ref s,.int p,.int q,.int r])/\H s=some (.lst (ns.map V.int))/\s≠t/\ns.length≤63/\0≤p/\0≤q/\0≤r
def Cp (K:PySem.W.Frag):Sp:=fun vs H Q _=>∃ (a:Addr) (ns:List Int),vs=[.ref a]/\aF K H a (ns.map V.int)/\∀ (t s:Addr) (H':Hp),az H H'->H t=none->H s=none->Ak H' t s->Q (.ref t) H'
def Cr:Sp:=fun vs H Q _=>∃ (t s:Addr) (m:Int),vs=[.ref t,.int m]/\Ak H t s/\0 < m/\m < 1073741824/\∀ (r:Int) (xs:List V),0≤r->r < m->Ak (ax H t (.lst xs)) t s->Q (.int r) (ax H t (.lst xs))
def Cq (K:PySem.W.Frag):Sp:=fun vs H Q _=>∃ (a:Addr) (ns:List Int),vs=[.ref a]/\aF K H a (ns.map V.int)/\ns.length≤63/\∀ H',Q (.bl true) H'
theorem l8 {a b:Int} (ha:0≤a) (hb:0 < b):Int.gcd b (a % b)=Int.gcd a b:=by
 obtain⟨n,rfl⟩:=Int.eq_ofNat_of_zero_le ha
 obtain⟨m,rfl⟩:=Int.eq_ofNat_of_zero_le (Int.le_of_lt hb)
 rw [← Int.natCast_emod]
 show Nat.gcd m (n % m)=Nat.gcd n m
 rw [Nat.gcd_comm m,← Nat.gcd_rec,Nat.gcd_comm]
theorem nV (i:Int):(if i < 0 then -i else i)=(i.natAbs:Int):=by split <;> omega
end B
namespace B
open PySem PySem.Spec L2 PyProof.Rows
mutual
inductive cb (K:PySem.W.Frag) (H:Hp):V->PyData->Prop where
 | non:cb K H .non .none
 | bl (b:Bool):cb K H (.bl b) (.bool b)
 | int (i:Int):cb K H (.int i) (.int i)
 | str (x:Str):cb K H (.str x) (.str x)
 | lst {a:Addr} {xs:List V} {ds:List PyData} (e:aF K H a xs) (h:bb K H xs ds):cb K H (.ref a) (.list ds)
 | tup {a:Addr} {xs:List V} {ds:List PyData} (e:bS K H a xs) (h:bb K H xs ds):cb K H (.ref a) (.tuple ds)
inductive bb (K:PySem.W.Frag) (H:Hp):List V->List PyData->Prop where
 | nil:bb K H [] []
 | cons {x:V} {d:PyData} {xs:List V} {ds:List PyData} (h:cb K H x d) (t:bb K H xs ds):bb K H (x :: xs) (d :: ds)
end
mutual
theorem cb.reads {X:Cx} {pins:List (Addr×Obj)} {σ:L2.St} {H:Hp} {s:Shared} (I:Inv X pins σ H s):∀ {v:V} {d:PyData} {u:Value},cb X.K H v d->aO v u->∃ as,Reads s.heap u d as
 | _,_,u,.non,r=>by cases (show u=Value.none from r);exact⟨_,.none⟩
 | _,_,u,.bl b,r=>by cases (show u=Value.bool b from r);exact⟨_,.bool b⟩
 | _,_,u,.int i,r=>by obtain⟨t,q⟩:=(show ∃ t,u=Value.int i t from r);cases q;exact⟨_,.int i t⟩
 | _,_,u,.str x,r=>by obtain⟨t,q⟩:=(show ∃ t,u=Value.str x t from r);cases q;exact⟨_,.str x t⟩
 | _,_,u,.lst (a:=a) e h,r=>by
  cases (show u=Value.ref a from r)
  obtain⟨its,rv,⟨o,n,ho,hc,_,hd⟩,_⟩:=I.list e
  obtain⟨as,q⟩:=bb.reads I h rv
  exact⟨_,.list ho hc hd (by simpa using q)⟩
 | _,_,u,.tup (a:=a) e h,r=>by
  cases (show u=Value.ref a from r)
  obtain⟨its,rv,⟨o,ho,hc,n,hd⟩,_⟩:=I.tuple e
  obtain⟨as,q⟩:=bb.reads I h rv
  exact⟨_,.tuple ho hc hd (by simpa using q)⟩
theorem bb.reads {X:Cx} {pins:List (Addr×Obj)} {σ:L2.St} {H:Hp} {s:Shared} (I:Inv X pins σ H s):∀ {vs:List V} {ds:List PyData} {us:List Value},bb X.K H vs ds->aR vs us->∃ as,ReadsAll s.heap us ds as
 | _,_,_,.nil,.nil=>⟨_,.nil⟩
 | _,_,_,.cons h t,.cons r q=>
  let ⟨_,a⟩:=cb.reads I h r
  let ⟨_,b⟩:=bb.reads I t q
  ⟨_,.cons a b⟩
end
structure ph (d:PyData):Prop where
 sh:d.showable=true
 nd:d.hasDict=false
 sz:d.shown.length≤sizeLine
 dp:d.depth≤16
def Bi (K:PySem.W.Frag):List V->Hp->VK->Prop:=fun xs H Q=>∃ v d,xs=[v]/\cb K H v d/\ph d/\Q (.str d.shown) H
theorem fA {X:Cx} {k:Nat} (hr:cr k X.A):cB X (.builtin "repr") (Bi X.K):=by
 intro pins s σ H xs us Q I r h
 obtain⟨v,d,rfl,dp,sh,q⟩:=h
 obtain⟨u,rfl,ru⟩:=eJ r
 cases dp with
 | non=>cases (show u=Value.none from ru);exact PySem.P.repr_of_none ⟨.str "None", H,I.tok _,⟨_,rfl⟩,q⟩
 | bl b=>cases (show u=Value.bool b from ru);exact PySem.P.repr_of_bool ⟨.str _,H,I.tok _,⟨_,rfl⟩,q⟩
 | int i=>
  obtain⟨t,e⟩:=(show ∃ t,u=Value.int i t from ru)
  cases e
  exact PySem.P.repr_of_int (of_decide_eq_true sh.sh) ⟨.str _,H,I.tok _,⟨_,rfl⟩,q⟩
 | str x=>
  obtain⟨t,e⟩:=(show ∃ t,u=Value.str x t from ru)
  cases e
  exact PySem.P.repr_of_str ⟨.str _,H,I.tok _,⟨_,rfl⟩,q⟩ sh.sz
 | @lst a ys ds e h=>
  cases (show u=Value.ref a from ru)
  obtain⟨as,rd⟩:=cb.reads I (.lst e h) (show aO (.ref a) (.ref a) from rfl)
  exact repr_of_reads' rd sh.sh (fun z=>by rw [sh.nd] at z;cases z) hr.gd (by have:=hr.units;have:=sh.dp;omega) (fun _ _ z=>z) (fun h' u tk hk=>⟨.str _,H,I.kept hk,⟨_,rfl⟩,q⟩) sh.sz
 | @tup a ys ds e h=>
  cases (show u=Value.ref a from ru)
  obtain⟨as,rd⟩:=cb.reads I (.tup e h) (show aO (.ref a) (.ref a) from rfl)
  exact repr_of_reads' rd sh.sh (fun z=>by rw [sh.nd] at z;cases z) hr.gd (by have:=hr.units;have:=sh.dp;omega) (fun _ _ z=>z) (fun h' u tk hk=>⟨.str _,H,I.kept hk,⟨_,rfl⟩,q⟩) sh.sz
end B
namespace B
open PySem PySem.Spec L2 PyProof.Rows
def gP (X:Cx) (N':List Str) (scope:Scope) (cl:List (Str×Addr)) (C:Addr) (fp:List Addr) (pins:List (Addr×Obj)) (s:Shared) (H:Hp):Cx:=
 { X with N:=N',s₀:=s,H₀:=H,env:=compEnvC scope cl C X.env,outer:=X.stack,stack:=X.stack,ex:=fp,fn:=fun _=>false,pn:=X.pn++pins,xe:=fun _ _=>False }
def bQ (X:Cx) (scope:Scope) (cl:List (Str×Addr)):List Str->List (Option Nat)->Prop
 | [],[]=>True
 | _ :: N,none :: r=>bQ X scope cl N r
 | x :: N,some j :: r=>X.N[j]?=some x/\X.env.kindOf x=some .cell/\(compEnvC scope cl 0 X.env).kindOf x=some .cell/\cl.lookup x=X.env.cells.lookup x/\bQ X scope cl N r
 | _,_=>False
def bC (src:List (Option Nat)) (σ:L2.St):L2.St:=src.map fun o=>o.bind fun j=>(σ[j]?).getD none
theorem bQ.len {X:Cx} {scope:Scope} {cl:List (Str×Addr)}:∀ {N:List Str} {src:List (Option Nat)},bQ X scope cl N src->N.length=src.length
 | [],[],_=>rfl
 | _ :: _,none :: _,h=>congrArg (·+1) (bQ.len (X:=X) (scope:=scope) (cl:=cl) h)
 | _ :: _,some _ :: _,h=>congrArg (·+1) (bQ.len (X:=X) (scope:=scope) (cl:=cl) h.2.2.2.2)
theorem bQ.at {X:Cx} {scope:Scope} {cl:List (Str×Addr)} {σ:L2.St}:∀ {N:List Str} {src:List (Option Nat)} {i:Nat} {x:Str} {v:V},bQ X scope cl N src->N[i]?=some x->(bC src σ)[i]?=some (some v)→
  ∃ j:Nat,X.N[j]?=some x/\σ[j]?=some (some v)/\X.env.kindOf x=some .cell/\(compEnvC scope cl 0 X.env).kindOf x=some .cell/\cl.lookup x=X.env.cells.lookup x
 | y :: N,none :: r,0,x,v,h,e,q=>by cases q
 | y :: N,none :: r,i+1,x,v,h,e,q=>bQ.at (N:=N) (src:=r) (i:=i) h e q
 | y :: N,some j :: r,0,x,v,h,e,q=>by
  cases e
  refine⟨j,h.1,?_,h.2.1,h.2.2.1,h.2.2.2.1⟩
  have q':some ((σ[j]?).getD none)=some (some v):=q
  injection q' with q'
  cases z:σ[j]? with
  | none=>rw [z] at q';cases q'
  | some o=>rw [z] at q';exact congrArg some q'
 | y :: N,some j :: r,i+1,x,v,h,e,q=>bQ.at (N:=N) (src:=r) (i:=i) h.2.2.2.2 e q
def dh (X:Cx) (scope:Scope) (cl:List (Str×Addr)):Prop:=
 (∀ x,((compEnvC scope cl 0 X.env).kindOf x=some .cell∨(compEnvC scope cl 0 X.env).kindOf x=some .free)->∃ c,cl.lookup x=some c)/\∀ x c,cl.lookup x=some c->X.env.cells.lookup x=some c
def fF (X:Cx):List (Str×Addr)->Prop
 | []=>True
 | y :: r=>X.env.cells.lookup y.1=some y.2/\fF X r
theorem fF.mem {X:Cx}:∀ {cl:List (Str×Addr)},fF X cl->∀ y∈cl,X.env.cells.lookup y.1=some y.2
 | [],_,y,h=>by cases h
 | z :: r,k,y,h=>by
  rcases List.mem_cons.mp h with e | h
  ·rw [e];exact k.1
  ·exact fF.mem k.2 y h
theorem mem_of_lookup {α:Type} {x:Str} {v:α}:∀ {l:List (Str×α)},l.lookup x=some v->(x,v)∈l
 | [],h=>by cases h
 | (y,w) :: r,h=>by
  rw [List.lookup_cons] at h
  cases e:x == y with
  | true=>
   rw [e] at h
   have e':x=y:=eq_of_beq e
   cases h
   rw [e'];exact List.mem_cons_self
  | false=>
   rw [e] at h
   exact List.mem_cons_of_mem _ (mem_of_lookup h)
theorem aQ {X:Cx} {scope:Scope} {cl:List (Str×Addr)} (h1:((relabel scope X.env).names.all fun y=>!(y.2 == .cell || y.2 == .free) || (cl.lookup y.1).isSome)=true) (h2:fF X cl):dh X scope cl:=by
 refine⟨fun x h=>?_,fun x c e=>h2.mem _ (mem_of_lookup e)⟩
 have h3:=List.all_eq_true.mp h1
 have key:∀ k:NameKind,(k=.cell∨k=.free)->(relabel scope X.env).names.lookup x=some k->∃ c,cl.lookup x=some c:=fun k hk e=>by
  have q:=h3 _ (mem_of_lookup e)
  have z:(k == NameKind.cell || k == NameKind.free)=true:=by rcases hk with rfl | rfl <;> rfl
  simp only [z,Bool.not_true,Bool.false_or] at q
  exact Option.isSome_iff_exists.mp q
 rcases h with h | h
 ·exact key _ (.inl rfl) h
 ·exact key _ (.inr rfl) h
def dM (σ σ':L2.St):Prop:=σ'.length=σ.length/\∀ (i:Nat) (v:V),σ[i]?=some (some v)->σ'[i]?=some (some v)
theorem dM.set {σ:L2.St} {i:Nat} {v:V} (h:σ[i]?=some none):dM σ (σ.set i (some v)):=by
 refine⟨List.length_set,fun j u e=>?_⟩
 have ne:i≠j:=fun z=>by subst z;rw [h] at e;cases e
 rw [List.getElem?_set_ne ne];exact e
theorem dM.set' {σ τ:L2.St} {i:Nat} {v:V} (e:dM σ τ) (h:σ[i]?=some none):dM σ (τ.set i (some v)):=by
 refine⟨by rw [List.length_set];exact e.1,fun j u q=>?_⟩
 have ne:i≠j:=fun z=>by subst z;rw [h] at q;cases q
 rw [List.getElem?_set_ne ne];exact e.2 j u q
section
variable {X:Cx} {N':List Str} {scope:Scope} {cl:List (Str×Addr)} {src:List (Option Nat)} {pins:List (Addr×Obj)} {σ:L2.St} {H:Hp} {s:Shared} {fp:List Addr}
theorem Cx.comp_ok {C:Addr} (I:Inv X pins σ H s) (hC:s.heap.objs.size≤C) (hk:scope.kind=.function) (hf:∀ b∈fp,fh X pins H b) (hfs:∀ b∈fp,b < s.heap.objs.size) (hc:dh X scope cl) :
  (gP X N' scope cl C fp pins s H).Ok where
 mod:=I.ok.mod
 kind:=hk
 glob:=I.ok.glob
 blt:=I.ok.blt
 above:=hC
 inj:=fun x y c e1 e2=>I.ok.inj x y c (hc.2 x c e1) (hc.2 y c e2)
 has:=fun x h=>hc.1 x h
 cab:=fun x c z=>nomatch z
 hd:=I.ok.hd
 frames:=I.ok.frames
 stk:=.inl rfl
 exf:=fun b hb=>⟨fun z=>by have:=hfs b hb;rw [show b=C from z] at this;exact absurd (Nat.lt_of_lt_of_le this hC) (Nat.lt_irrefl _),fun x c e=>(hf b hb).2.2.2.2.1 x c (hc.2 x c e)⟩
 bs:=I.bs
 bsz:=Nat.le_trans I.ok.bsz I.sz
 noex:=fun b o e hb=>by
  rcases (hf b hb).2.2.2.1 with z | z
  ·exact I.ok.noex b o e z
  ·rw [(I.ok.bs b o e).1] at z;cases z
 exfs:=fun b hb z=>by
  rcases List.mem_cons.mp (I.stkSub b z) with q | q
  ·exact (hf b hb).2.1 q
  ·exact (hf b hb).2.2.1 q
 funs:=I.stack
 frf:=I.stkFree
theorem Inv.comp {C:Addr} {h₁:Heap} {m:Str->Option Value} {tk:Nat} (I:Inv X pins σ H s) (hC:C=s.heap.objs.size) (hns:h₁.Ns C m) (keep:∀ b o,s.heap.get? b=some o->h₁.get? b=some o)
  (hk:scope.kind=.function) (hf:∀ b∈fp,fh X pins H b) (hfs:∀ b∈fp,b < s.heap.objs.size) (hc:dh X scope cl) (hfree:bQ X scope cl N' src) :
  Inv (gP X N' scope cl C fp pins s H) [] (bC src σ) H { s with heap:=h₁,toks:=tk } where
 ok:=Cx.comp_ok I (Nat.le_of_eq hC.symm) hk hf hfs hc
 os:=rfl
 bare:=I.bare
 base:=Un.kept keep
 loc:=⟨m,hns,fun i x v e1 e2 _=>by
  obtain⟨j,hj,hσ,kc,kc',hl⟩:=hfree.at e1 e2
  obtain⟨m0,hn0,hl0⟩:=I.loc
  obtain⟨u,r,l⟩:=hl0 j x v hj hσ (Or.inr (Or.inl kc))
  rcases l with ⟨k,_⟩ | ⟨k,c,e,o,ho,hd⟩
  ·rw [kc] at k;cases k
  ·exact⟨u,r,.inr ⟨.inl kc',c,hl.trans e,o,keep c o ho,hd⟩⟩⟩
 cell:=fun x c e=>let ⟨v,o,ho,hd⟩:=I.cell x c (hc.2 x c e);⟨v,o,keep _ _ ho,hd⟩
 free:=I.hok.fresh (Nat.le_of_eq hC.symm)
 freeC:=fun x c e=>I.freeC x c (hc.2 x c e)
 pin:=fun p hp=>by
  have hp':p∈X.pn++pins:=by
   have z:p∈(X.pn++pins)++[]:=hp
   rw [List.append_nil] at z;exact z
  obtain⟨e,n,ne,nf,d⟩:=I.pin p hp'
  refine⟨keep _ _ e,n,fun z=>?_,fun z=>?_,d⟩
  ·have:=Heap.lt_size e;rw [show p.1=C from z,hC] at this;exact Nat.lt_irrefl _ this
  ·rcases List.mem_cons.mp (I.stkSub _ z) with q | q
   ·exact ne q
   ·exact nf q
 hok:=I.hok.kept keep
 len:=by show (bC src σ).length=N'.length;unfold bC;rw [List.length_map,hfree.len]
end
def xA (X:Cx) (ifs:List Expr) (t:TT):Prop:=
 ∀ (pins:List (Addr×Obj)) (s:Shared) (σ:L2.St) (H:Hp) (Q:Bool->Hp->Prop),Inv X pins σ H s->t σ H Q→
  wpAny (model X.prog X.w) X.A (forIn ifs true fun c r=>if r=true then do let ok ← isTrue c X.env (eval c X.env);pure (ForInStep.yield ok) else pure (ForInStep.yield r)) (TP X pins σ Q) X.xe s
def AR:TT:=fun _ H Q=>Q true H
theorem vm {X:Cx}:xA X [] AR:=fun _ _ _ H _ I h=>wpAny_tests_nil ⟨H,I,h⟩
theorem vi {X:Cx} {c:Expr} {t:TT} (h:PT X c t):xA X [c] t:=fun pins s σ H Q I q=>wpAny_tests_one (h pins s σ H Q I q)
section
variable {prog:Program} {w:World} {A:Around} {R:Result->Shared->Prop} {s:Shared}
theorem jT {elt target iter:Expr} {ifs:List Expr} {scope:Scope} {pos:Pos} {it acc:Value} {env:Env} (I:Nat->Shared->Prop)
  (turn:∀ n s,I n s->wpAny (model prog w) A (pyNext it) (fun r s₁=>match r with
   | none=>R (.ok .next) s₁
   | some v=>wpAny (model prog w) A (letOwnedTupleGo target it v) (fun _ s₁'=>wpAny (model prog w) A (assign target env v) (fun _ s₂=>
     wpAny (model prog w) A (forIn ifs true fun c r=>if r=true then do let ok ← isTrue c env (eval c env);pure (ForInStep.yield ok) else pure (ForInStep.yield r)) (fun ok s₃=>
      if ok=true then wpAny (model prog w) A (eval elt env) (fun x s₄=>
       wpAny (model prog w) A (call (.builtin "list.append") [acc,x]) (fun _ s₅=>∃ m,m < n/\I m s₅) (fun _ _=>False) s₄) (fun _ _=>False) s₃
      else ∃ m,m < n/\I m s₃) (fun _ _=>False) s₂) (fun _ _=>False) s₁') (fun _ _=>False) s₁) (fun _ _=>False) s)
  (n:Nat) (h:I n s):codeAny (model prog w) A (.compLoop (.ListComp elt [⟨target,iter,ifs,0⟩] scope pos) 0 it acc env) R s:=by
 refine codeAny_loop rfl I (fun n s hI=>?_) n h
 show wpAny _ A ((compTurn (.ListComp elt [⟨target,iter,ifs,0⟩] scope pos) 0 it acc env).onRaise (fun x=>do noteFrame x env;theTreesLotGoes x)) _ _ s
 refine wpAny_noted ?_
 rw [compTurn_list]
 refine wpAny_bind (wpAny_standAt (wpAny_bind (wpAny_mono (turn n s hI) (fun r s₁ h₁=>?_) fun _ _ h'=>h'.elim)))
 cases r with
 | none=>exact wpAny_pure h₁
 | some v=>
  refine wpAny_bind (wpAny_mono h₁ (fun _ s₁' h₁'=>?_) fun _ _ h'=>h'.elim)
  refine wpAny_bind (wpAny_mono h₁' (fun _ s₂ h₂=>wpAny_bind (wpAny_mono h₂ (fun ok s₃ h₃=>?_) fun _ _ h'=>h'.elim)) fun _ _ h'=>h'.elim)
  cases ok with
  | false=>exact wpAny_pure ⟨rfl,h₃⟩
  | true=>
   exact wpAny_bind (wpAny_bind (wpAny_mono h₃ (fun x s₄ h₄=>wpAny_bind (wpAny_mono h₄ (fun _ s₅ h₅=>wpAny_pure (wpAny_pure ⟨rfl,h₅⟩)) fun _ _ h'=>h'.elim)) fun _ _ h'=>h'.elim))
end
structure qp (X:Cx) (pins:List (Addr×Obj)) (H:Hp) (C:Addr):Prop where
 no:H C=none
 lo:C≠X.env.locals
 fs:C∉X.fs
 old:X.s₀.heap.get? C=none
 ce:∀ x c,X.env.cells.lookup x=some c->c≠C
 pn:∀ p∈X.pn++pins,p.1≠C
theorem qp.turned {X:Cx} {pins:List (Addr×Obj)} {σ:L2.St} {H:Hp} {C:Addr} {s:Shared} (o:qp X pins H C) (I:Inv X pins σ H s) {h':Heap} (sb:Heap.SameBut C s.heap h'):Inv X pins σ H { s with heap:=h' }:=
 I.turned (it:=C) (t':=s.toks) (fun b u hb e=>sb.extBut b u hb e) o.no o.lo (.inr o.old) o.ce o.pn
def f9 (wi:TI) (src:List (Option Nat)) (g:TG) (tt:TT) (te:TE):TE:=fun σ H Q=>wi σ H fun J H1=>∀ D,H1 D=none->∃ W:Nat->Nat->List V->Hp->Prop,
 (∃ m,W 0 m [] (ax H1 D (.lst [])))/\∀ i m ys H,W i m ys H->(J.stop i H/\Q (.ref D) H)∨(J.go i H/\∀ x H',J.yld i H x H'->g x (bC src σ) H' fun σ2 H2=>dM (bC src σ) σ2/\tt σ2 H2 fun ok H3=>
  if ok=true then te σ2 H3 fun y H4=>H4 D=some (.lst ys)/\ys.length < sizeLine/\∃ m',m' < m/\W (i+1) m' (ys++[y]) (ax H4 D (.lst (ys++[y]))) else ∃ m',m' < m/\W (i+1) m' ys H3)
section
variable {X:Cx} {N':List Str} {scope:Scope} {cl:List (Str×Addr)} {src:List (Option Nat)} {tg iter elt:Expr} {ifs:List Expr} {wi:TI} {g:TG} {tt:TT} {te:TE} {pos:Pos}
theorem mh (hc:X.calm=true) (hi:PI X tg iter wi) (hg:∀ C fp pins s H,PG (gP X N' scope cl C fp pins s H) tg g) (ht:∀ C fp pins s H,xA (gP X N' scope cl C fp pins s H) ifs tt)
  (he:∀ C fp pins s H,PE (gP X N' scope cl C fp pins s H) elt te) (hfree:bQ X scope cl N' src) (hcell:∀ x∈scope.names,x.2≠.cell) (hkind:scope.kind=.function) (hcl:dh X scope cl)
  {RR:Value->Addr->Result->Shared->Prop} {pins:List (Addr×Obj)} {s:Shared} {σ:L2.St} {H:Hp} {Q:VK} (I:Inv X pins σ H s) (h:f9 wi src g tt te σ H Q)
  (hRR:∀ D C H' s',Q (.ref D) H'->(∃ m,s'.heap.Ns C m)->Inv X pins σ H' s'->qp X pins H' C->RR (.ref D) C (.ok .next) s') :
  wpAny (model X.prog X.w) X.A (eval iter X.env) (fun x s₁=>wpAny (model X.prog X.w) X.A (pyIter x) (fun itv s₂=>wpAny (model X.prog X.w) X.A (newList []) (fun acc s₃=>
   wpAny (model X.prog X.w) X.A (newFunctionEnv scope X.env.globals cl [] X.env.qual none .none (some X.env)) (fun cenv s₄=>
    codeAny (model X.prog X.w) X.A (.compStart (.ListComp elt [⟨tg,iter,ifs,0⟩] scope pos) 0 itv acc { cenv with scope:=relabel scope X.env }) (RR acc cenv.locals) s₄) X.xe s₃) X.xe s₂) X.xe s₁) X.xe s:=by
 refine bc (hi pins s σ H _ I h) fun v s1 h1=>bc h1 fun itv s2 h2=>?_
 obtain⟨it,fp,tn,J,H2,e,I2,T,st2,f2,h2⟩:=h2
 subst e
 refine wpAny_newObj_type ?_ (by show 0≤sizeLine;exact Nat.zero_le _)
 have hD:H2 s2.heap.objs.size=none:=I2.fresh
 have I3:Inv X pins σ (ax H2 s2.heap.objs.size (.lst [])) { s2 with heap:=s2.heap.push { cls:=.type "list", data:=.seq ([]:List Value).toArray } }:=I2.lnew (t':=s2.toks) (its:=[]) .nil (Nat.zero_le _)
 obtain⟨W,⟨m0,w0⟩,turn⟩:=h2 s2.heap.objs.size hD
 generalize hDe:s2.heap.objs.size=D at I3 turn w0 hD ⊢
 have st3:tn 0 (s2.heap.push { cls:=.type "list", data:=.seq ([]:List Value).toArray }):=T.keep _ _ _ st2 fun b _ o e=>Heap.get?_push_of_some _ e
 have f3:∀ b∈fp,fh X pins (ax H2 D (.lst [])) b/\b < (s2.heap.push { cls:=.type "list", data:=.seq ([]:List Value).toArray }).objs.size:=fun b hb=>by
  obtain⟨o,e,_⟩:=T.obj _ _ st2 b hb
  have l:=Heap.lt_size e
  rw [hDe] at l
  refine⟨⟨?_,(f2 b hb).2⟩,by rw [Heap.size_push,hDe];exact Nat.lt_succ_of_lt l⟩
  rw [aj (Nat.ne_of_lt l)];exact (f2 b hb).1
 generalize (s2.heap.push { cls:=.type "list", data:=.seq ([]:List Value).toArray })=h3 at I3 st3 f3 ⊢
 refine wpAny_newFunctionEnv hcell (by intro y hy;simp at hy) (fun h₄ hns₄ hsb₄=>?_) hkind
 have keep:∀ b o,h3.get? b=some o->h₄.get? b=some o:=fun b o e=>hsb₄.extBut b o (Nat.ne_of_lt (Heap.lt_size e)) (Heap.get?_push_of_some _ e)
 have I4:=Inv.comp (C:=h3.objs.size) (fp:=fp) (tk:=s2.toks+([]:List (Str×Value)).length) I3 rfl hns₄ keep hkind (fun b hb=>(f3 b hb).1) (fun b hb=>(f3 b hb).2) hcl hfree
 have st4:tn 0 h₄:=T.keep _ _ _ st3 fun b _ o e=>keep b o e
 have fpn:∀ b∈fp,(ax H2 D (.lst [])) b=none:=fun b hb=>(f3 b hb).1.1
 have hn3:∀ b∈fp,b≠h3.objs.size:=fun b hb=>Nat.ne_of_lt (f3 b hb).2
 have stat:∀ {H':Hp},(∀ b∈fp,H' b=none)->∀ b∈fp,fh (gP X N' scope cl h3.objs.size fp pins { s2 with heap:=h3 } (ax H2 D (.lst []))) [] H' b:=fun hn b hb=>
  ⟨hn b hb,hn3 b hb,I4.ok.exfs b hb,.inl hb,fun x c e=>(f3 b hb).1.2.2.2.2.1 x c (hcl.2 x c e),fun p hp=>(f3 b hb).1.2.2.2.2.2 p (by
   have z:p∈(X.pn++pins)++[]:=hp
   rw [List.append_nil] at z;exact z)⟩
 have back:∀ {H':Hp} {s':Shared},Inv (gP X N' scope cl h3.objs.size fp pins { s2 with heap:=h3 } (ax H2 D (.lst []))) [] (bC src σ) H' s'->(∃ m,s'.heap.Ns h3.objs.size m)/\Inv X pins σ H' s'/\qp X pins H' h3.objs.size:=fun {H' s'} I'=>by
  have Ib:Inv X pins σ H' s':=I3.call' I'.os I'.base I'.hok I'.bare fun b hb=>⟨(f3 b hb).1.2.2.2.1,(f3 b hb).1.2.1,(f3 b hb).1.2.2.2.2.1,(f3 b hb).1.2.2.2.2.2⟩
  refine⟨let ⟨m,hm,_⟩:=I'.loc;⟨m,hm⟩,Ib,⟨I'.free,fun z=>?_,I3.nofs (Nat.le_refl _),Heap.get?_none_of_le I3.sz,fun x c e z=>?_,fun p hp z=>?_⟩⟩
  ·have:=I3.lt;rw [← z] at this;exact Nat.lt_irrefl _ this
  ·obtain⟨v,o,ho,_⟩:=I3.cell x c e
   have:=Heap.lt_size ho;rw [z] at this;exact Nat.lt_irrefl _ this
  ·obtain⟨e,_⟩:=I3.pin p hp
   have:=Heap.lt_size e;rw [z] at this;exact Nat.lt_irrefl _ this
 have loop:codeAny (model X.prog X.w) X.A (.compLoop (.ListComp elt [⟨tg,iter,ifs,0⟩] scope pos) 0 (.ref it) (.ref D) (compEnvC scope cl h3.objs.size X.env)) (RR (.ref D) h3.objs.size) { s2 with heap:=h₄,toks:=s2.toks+([]:List (Str×Value)).length }:=by
  refine jT (fun n s'=>∃ i ys H',Inv (gP X N' scope cl h3.objs.size fp pins { s2 with heap:=h3 } (ax H2 D (.lst []))) [] (bC src σ) H' s'/\tn i s'.heap/\(∀ b∈fp,H' b=none)/\W i n ys H') ?_ m0 ⟨0,[],_,I4,st4,fpn,w0⟩
  rintro n s5 ⟨i,ys,H5,I5,st5,fr5,w5⟩
  rcases turn i n ys H5 w5 with ⟨stop,qn⟩ | ⟨go,step⟩
  ·refine bc (T.done (gP X N' scope cl h3.objs.size fp pins { s2 with heap:=h3 } (ax H2 D (.lst []))) rfl rfl rfl hc i [] s5 _ H5 _ I5 (stat fr5) st5 stop) fun r s6 ⟨hr,I6⟩=>?_
   subst hr
   obtain⟨b1,b2,b3⟩:=back I6
   exact hRR D _ H5 s6 qn b1 b2 b3
  ·refine bc (T.item (gP X N' scope cl h3.objs.size fp pins { s2 with heap:=h3 } (ax H2 D (.lst []))) rfl rfl rfl hc i [] s5 _ H5 _ I5 (stat fr5) st5 go) fun r s6 ⟨u,hr,h6⟩=>?_
   subst hr
   refine bc h6 fun _ s7 ⟨x,H7,I7,r7,y7,st7,fr7⟩=>?_
   have I7':=I7.pinned (stat fr7) (T.obj _ _ st7)
   refine bc (hg _ _ _ _ _ _ s7 _ H7 x u _ I7' r7 (step x H7 y7)) fun _ s8 ⟨σ8,H8,I8,ex8,q8⟩=>?_
   refine bc (ht _ _ _ _ _ _ s8 σ8 H8 _ I8 q8) fun ok s9 ⟨H9,I9,q9⟩=>?_
   have again:∀ {ys':List V} {Ha:Hp} {sa:Shared},Inv (gP X N' scope cl h3.objs.size fp pins { s2 with heap:=h3 } (ax H2 D (.lst []))) ([]++gI fp s7.heap) σ8 Ha sa->(∃ m',m' < n/\W (i+1) m' ys' Ha)→
     ∃ m,m < n/\∃ i ys H',Inv (gP X N' scope cl h3.objs.size fp pins { s2 with heap:=h3 } (ax H2 D (.lst []))) [] (bC src σ) H' sa/\tn i sa.heap/\(∀ b∈fp,H' b=none)/\W i m ys H':=fun {ys' Ha sa} Ia ⟨m',hm,wa⟩=>by
    refine⟨m',hm,i+1,ys',Ha,(Ia.unpinned).weak ex8.1.symm ex8.2,T.keep _ _ _ st7 fun b hb o e=>(Ia.pin (b,o) (List.mem_append_right _ (List.mem_append_right _ (cP hb e)))).1,fun b hb=>?_,wa⟩
    obtain⟨o,e,_⟩:=T.obj _ _ st7 b hb
    exact (Ia.pin (b,o) (List.mem_append_right _ (List.mem_append_right _ (cP hb e)))).2.1
   cases ok with
   | false=>exact again I9 q9
   | true=>
    refine bc (he _ _ _ _ _ _ s9 σ8 H9 _ I9 q9) fun y s10 ⟨yv,H10,I10,r10,q10,hz,wn⟩=>?_
    refine bc (ck _ s10 σ8 H10 (.ref D) [yv] (.ref D) [y] (fun _ Hz=>∃ m',m' < n/\W (i+1) m' (ys++[yv]) Hz) I10 rfl (.cons r10 .nil) ⟨D,ys,yv,rfl,rfl,q10,hz,wn⟩) fun _ s11 ⟨_,H11,I11,_,q11⟩=>?_
    exact again I11 q11
 exact codeAny_compStart_list loop (T.self _ 0 _ _ _ st4 loop)
theorem tf (hc:X.calm=true) (hi:PI X tg iter wi) (hg:∀ C fp pins s H,PG (gP X N' scope cl C fp pins s H) tg g) (ht:∀ C fp pins s H,xA (gP X N' scope cl C fp pins s H) ifs tt)
  (he:∀ C fp pins s H,PE (gP X N' scope cl C fp pins s H) elt te) (hfree:bQ X scope cl N' src) (hclos:closureFor scope X.env=pure cl) (hcell:∀ x∈scope.names,x.2≠.cell) (hkind:scope.kind=.function)
  (hnames:∀ x∈scope.names,x.2=.local->scope.names.lookup x.1=some .local) (hcl:dh X scope cl) (hs:∀ x,foldedSetIterable iter X.env x=pure x:=by intro _;rfl) :
  PE X (.ListComp elt [⟨tg,iter,ifs,0⟩] scope pos) (f9 wi src g tt te):=by
 intro pins s σ H Q I h
 rw [eval_ListComp]
 refine wpAny_comprehension_free (use:=none) rfl hs hclos hkind hnames (mh hc hi hg ht he hfree hcell hkind hcl (RR:=fun acc C=>compPost (model X.prog X.w) X.A X.xe none (EP X pins σ Q) acc C) I h fun D C H' s' q hm hI hb=>?_)
 obtain⟨m,hm⟩:=hm
 exact⟨m,hm,fun h' sb=>⟨.ref D,H',hb.turned hI sb,rfl,q⟩⟩
theorem vw {i:Nat} {x:Str} {pos' pos2:Pos} (hN:X.N.Nodup) (hi':X.N[i]?=some x) (hx:uL X.env.scope x) (hc:X.calm=true) (hi:PI X tg iter wi) (hg:∀ C fp pins s H,PG (gP X N' scope cl C fp pins s H) tg g) (ht:∀ C fp pins s H,xA (gP X N' scope cl C fp pins s H) ifs tt)
  (he:∀ C fp pins s H,PE (gP X N' scope cl C fp pins s H) elt te) (hfree:bQ X scope cl N' src) (hclos:closureFor scope X.env=pure cl) (hcell:∀ x∈scope.names,x.2≠.cell) (hkind:scope.kind=.function)
  (hnames:∀ x∈scope.names,x.2=.local->scope.names.lookup x.1=some .local) (hcl:dh X scope cl) (hs:∀ x,foldedSetIterable iter X.env x=pure x:=by intro _;rfl)
  (hsw:swapsWith (.ListComp elt [⟨tg,iter,ifs,0⟩] scope pos) (some (.Name x pos')) pos2.line X.env=pure true:=by rfl) (hf:X.fn x=true∨X.env.scope.names.lookup x=some .local:=by first | exact .inl rfl | exact .inr rfl | assumption) :
  PS X (.Assign [.Name x pos'] (.ListComp elt [⟨tg,iter,ifs,0⟩] scope pos) pos2) (mR (f9 wi src g tt te) (i9 i)):=by
 intro pins s σ H D I h
 rw [exec_Assign_Name_used _ _ _ _ hsw]
 refine wpAny_bind (wpAny_standAt ?_)
 show wpAny _ _ ((comprehension (.ListComp elt [⟨tg,iter,ifs,0⟩] scope pos) scope X.env _ (newList []) false (eval iter X.env) (some (assign (.Name x pos') X.env)) >>= fun _=>pure ()) >>= fun _=>pure Flow.next) _ _ s
 refine wpAny_bind (wpAny_bind (wpAny_mono (wpAny_comprehension_free (use:=some (assign (.Name x pos') X.env)) (Q:=fun _ s''=>SP X pins D .next s'') rfl hs hclos hkind hnames (mh hc hi hg ht he hfree hcell hkind hcl (RR:=fun acc C=>compPost (model X.prog X.w) X.A X.xe (some (assign (.Name x pos') X.env)) (fun _ s''=>SP X pins D .next s'') acc C) I h fun E C H' s' q hm hI hb=>?_)) (fun _ s'' h''=>wpAny_pure (wpAny_pure h'')) fun _ _ e=>e))
 obtain⟨m,o,es,ep,ho,hd,r1,r2⟩:=hm
 have I':Inv X (pins++[(C,o)]) σ H' s':=hI.pins_of fun p hp=>by
  rcases List.mem_append.mp hp with h | h
  ·exact hI.pin p (List.mem_append_right _ h)
  ·rw [List.mem_singleton] at h
   rw [h]
   exact⟨ho,hb.no,hb.lo,hb.fs,fun v z=>by rw [hd] at z;cases z⟩
 refine wpAny_assign_Name (dN I' hN hi' hx (show aO (.ref E) (.ref E) from rfl) (fun s'' I''=>?_) hf)
 have hC:=(I''.pin (C,o) (List.mem_append_right _ (List.mem_append_right _ List.mem_cons_self))).1
 have I3:Inv X pins (σ.set i (some (.ref E))) H' s'':=I''.pins_of fun p hp=>I''.pin p (List.mem_append_right _ (List.mem_append_left _ hp))
 exact⟨m,⟨o,es,ep,hC,hd,r1,r2⟩,fun h' sb=>⟨_,H',hb.turned I3 sb,q⟩⟩
end
def C1 (K:PySem.W.Frag):R2:=fun x y H Q=>∃ d d',cb K H x d/\cb K H y d'/\d.canLay0=true/\d'.canLay0=true/\d.depth≤32/\Q (.bl (!PyData.eqv d d')) H
theorem nB {X:Cx} {k:Nat} (hr:cr k X.A):eI X (compareOp .NotEq) (C1 X.K):=by
 intro pins s σ H x y v u Q I rx ry h
 obtain⟨d,d',hd,hd',c,c',dp,q⟩:=h
 obtain⟨as,ra⟩:=cb.reads I hd rx
 obtain⟨bs,rb⟩:=cb.reads I hd' ry
 exact SeqAt.compareNe_reads ra rb c c' (by have:=hr.units;omega) ⟨.bl _,H,I,rfl,q⟩
noncomputable def Em (h:Heap) (x:Value) (d:PyData) (y:Value):Bool:=
 open Classical in if y=x then true else if z:∃ d',d'.canLay0=true/\d'.depth≤32/\∃ as,Reads h y d' as then PyData.eqv z.choose d else false
def xB (K:PySem.W.Frag) (H:Hp) (xs:List V):Prop:=∀ x∈xs,∃ d,cb K H x d/\d.canLay0=true/\d.depth≤32
def Cv (K:PySem.W.Frag):R2:=fun x y H Q=>∃ a p xs,x=.ref a/\y=.ref p/\aF K H p xs/\V.ref a∈xs/\xB K H xs/\Q (.bl false) H
def CA (K:PySem.W.Frag):V->List V->Hp->VK->Prop:=fun x vs H Q=>∃ p xs a d,x=.ref p/\vs=[.ref a]/\aF K H p xs/\V.ref a∈xs/\xB K H xs/\cb K H (.ref a) d/\d.canLay0=true/\d.depth≤32∧
 ∀ (j:Nat) (v':V),xs[j]?=some v'->(v'=.ref a∨∀ d',cb K H v' d'->d'.canLay0=true->PyData.eqv d' d=true)->Q (.int j) H
end B
namespace B
abbrev R:=Int×Int
def cX (a b:Int):R:=(a / (Int.gcd a b:Int),b / (Int.gcd a b:Int))
structure Wf (n:Nat) (r:R):Prop where
 pos:0 < r.2
 top:r.1.natAbs < 2 ^ n
 bot:r.2.natAbs < 2 ^ n
 cop:Int.gcd r.1 r.2=1
theorem Wf.mono {n m:Nat} {r:R} (h:Wf n r) (l:n≤m):Wf m r:=⟨h.pos,Nat.lt_of_lt_of_le h.top (Nat.pow_le_pow_right (by decide) l),Nat.lt_of_lt_of_le h.bot (Nat.pow_le_pow_right (by decide) l),h.cop⟩
theorem bo {a b:Int} (hb:0 < b):0 < (Int.gcd a b:Int):=by
 have h:Int.gcd a b≠0:=fun z=>by
  have:=(Int.gcd_eq_zero_iff.mp z).2
  omega
 omega
theorem dG (a:Int) {g:Int} (hg:0 < g):(a / g).natAbs≤a.natAbs:=by
 have h1:=Int.ediv_mul_le a (show g≠0 by omega)
 have h2:=Int.lt_ediv_add_one_mul_self a hg
 rcases Int.le_total 0 a with h | h
 ·have h3:=Int.ediv_nonneg h (show 0≤g by omega)
  have h4:a / g≤a / g * g:=by
   have:a / g * 1≤a / g * g:=Int.mul_le_mul_of_nonneg_left (by omega) h3
   omega
  omega
 ·have h3:a / g≤0:=by
   have:=Int.ediv_le_ediv hg h
   rw [Int.zero_ediv] at this;exact this
  have h5:a≤a / g:=by
   have:a / 1≤a / g:=by
    have q:(a / g+1) * g≤(a / g+1) * 1∨0 < a / g+1:=by
     rcases Int.le_total (a / g+1) 0 with z | z
     ·left
      have:=Int.mul_le_mul_of_nonneg_left (a:=1) (b:=g) (c:=-(a / g+1)) (by omega) (by omega)
      have e1:-(a / g+1) * 1=-((a / g+1) * 1):=Int.neg_mul _ _
      have e2:-(a / g+1) * g=-((a / g+1) * g):=Int.neg_mul _ _
      omega
     ·rcases Int.lt_or_eq_of_le z with z | z
      ·right;exact z
      ·left;rw [← z];simp
    rw [Int.ediv_one]
    rcases q with q | q
    ·omega
    ·omega
   rw [Int.ediv_one] at this;exact this
  omega
theorem tO {n:Nat} {a b:Int} (hb:0 < b) (h1:a.natAbs < 2 ^ n) (h2:b.natAbs < 2 ^ n):Wf n (cX a b):=
 ⟨Int.ediv_pos_of_pos_of_dvd hb (Int.le_of_lt (bo hb)) (Int.gcd_dvd_right a b),Nat.lt_of_le_of_lt (dG _ (bo hb)) h1,Nat.lt_of_le_of_lt (dG _ (bo hb)) h2,Int.gcd_ediv_gcd_ediv_gcd (by have:=bo (a:=a) hb;omega)⟩
def bU (r q:R):R:=cX (r.1 * q.2+q.1 * r.2) (r.2 * q.2)
def bA (r q:R):R:=cX (r.1 * q.1) (r.2 * q.2)
def iZ (r q:R):Bool:=decide (r.1 * q.2 < q.1 * r.2)
theorem gK {x y:Int} {n m:Nat} (h1:x.natAbs < 2 ^ n) (h2:y.natAbs < 2 ^ m):(x * y).natAbs < 2 ^ (n+m):=by
 rw [Int.natAbs_mul,Nat.pow_add]
 exact Nat.mul_lt_mul'' h1 h2
end B
namespace B
open PySem L2 PyProof.Rows
def DE (i j:Int):Prop:=i.natAbs < 2 ^ 4000/\j.natAbs < 2 ^ 4000
def DB (_ j:Int):Prop:=0 < j/\j.natAbs < 2 ^ 4000
theorem o1 {i:Int} (h:i.natAbs < 2 ^ 4000):Builtin.Int.intBits i≤2 ^ 20:=by
 unfold Builtin.Int.intBits
 split
 ·exact Nat.zero_le _
 ·rename_i z
  have hz:i.natAbs≠0:=fun q=>z (by
   have:i=0:=by omega
   rw [this];rfl)
  have:=(Nat.log2_lt hz).mpr h
  have e:(2:Nat) ^ 20=1048576:=by decide
  omega
section
variable {X:Cx}
theorem bF:eI X (binaryOp .Mult) (rI DE fun i j=>.int (i * j)):=Ay fun _ _ _ _ _ _ _ hc q=>mul_int q (IntMulOk.of_bits (o1 hc.1) (o1 hc.2))
theorem cz:eI X (binaryOp .FloorDiv) (rI DB fun i j=>.int (i / j)):=Ay fun i j _ _ _ _ _ hc q=>by
 have h1:(0:Int) < j:=hc.1
 have h2:j.natAbs < 2 ^ 4000:=hc.2
 refine floordiv_int (by omega) (by rw [Int.fdiv_eq_ediv_of_nonneg i (by omega)];exact q) (.inl (PyProof.noPylong_of_log2 ?_))
 exact Nat.lt_trans ((Nat.log2_lt (show j.natAbs≠0 by omega)).mpr h2) (by decide)
end
def be (K:PySem.W.Frag) (H H':Hp):Prop:=∀ p xs,bS K H p xs->bS K H' p xs
theorem be.trans {K:PySem.W.Frag} {H H1 H2:Hp} (a:be K H H1) (b:be K H1 H2):be K H H2:=fun p xs h=>b p xs (a p xs h)
theorem be.same {K:PySem.W.Frag} {H H':Hp} (s:az H H'):be K H H':=fun p xs h=>by
 rcases h with (h | ⟨o,h⟩) | h
 ·exact .inl (.inl (s _ _ h))
 ·exact .inl (.inr ⟨o,s _ _ h⟩)
 ·exact .inr h
theorem be.step {K:PySem.W.Frag} {t:Addr} {H H':Hp} (S:wJ t H H'):be K H H':=fun p xs h=>by
 obtain⟨ys,ht⟩:=S.tp
 rcases h with (h | ⟨o,h⟩) | h
 ·exact .inl (.inl (S.keep _ _ (fun z=>by subst z;rw [h] at ht;cases ht) h))
 ·exact .inl (.inr ⟨o,S.keep _ _ (fun z=>by subst z;rw [h] at ht;cases ht) h⟩)
 ·exact .inr h
theorem be.up {K:PySem.W.Frag} {H:Hp} {l:Addr} {xs:List V} (h:H l=some (.lst xs)) (ys:List V):be K H (ax H l (.lst ys)):=be.step (wJ.up h)
def RV (K:PySem.W.Frag) (H:Hp) (v:V) (r:R):Prop:=∃ p,v=.ref p/\bS K H p [.int r.1,.int r.2]
theorem RV.mono {K:PySem.W.Frag} {H H':Hp} {v:V} {r:R} (h:RV K H v r) (t:be K H H'):RV K H' v r:=let ⟨p,e,q⟩:=h;⟨p,e,t _ _ q⟩
theorem RV.of {K:PySem.W.Frag} {H:Hp} {p:Addr} {a b:Int} (h:H p=some (.tup [.int a,.int b])):RV K H (.ref p) (a,b):=⟨p,rfl,bS.of h⟩
def CH (K:PySem.W.Frag) (H:Hp) (xs:List V) (rs:List R):Prop:=xs.length=rs.length/\∀ (i:Nat) (x:V) (r:R),xs[i]?=some x->rs[i]?=some r->RV K H x r
theorem CH.at {K:PySem.W.Frag} {H:Hp} {xs:List V} {rs:List R} {i:Nat} {x:V} (h:CH K H xs rs) (e:xs[i]?=some x):∃ r,rs[i]?=some r/\RV K H x r:=by
 have hi:=(List.getElem?_eq_some_iff.mp e).1
 have hj:i < rs.length:=by rw [← h.1];exact hi
 exact⟨rs[i],List.getElem?_eq_getElem hj,h.2 i x _ e (List.getElem?_eq_getElem hj)⟩
def Bt (r:R):Nat->R
 | 0=>(1,1)
 | k+1=>bA (Bt r k) r
theorem uP:Wf 1 (0,1):=⟨by decide,by decide,by decide,by decide⟩
def dD (rs:List R):R:=rs.foldl bU (0,1)
def dR (r:R):PyData:=.tuple [.int r.1,.int r.2]
theorem RV.deep {K:PySem.W.Frag} {H:Hp} {v:V} {r:R} (h:RV K H v r):cb K H v (dR r):=by
 obtain⟨p,rfl,q⟩:=h
 exact .tup q (.cons (.int _) (.cons (.int _) .nil))
theorem zN {i:Int} {n:Nat} (h:i.natAbs < 2 ^ n) (hn:n≤1900):i.natAbs.log2 < 1920:=by
 by_cases z:i.natAbs=0
 ·rw [z];decide
 ·have:=(Nat.log2_lt z).mpr (Nat.lt_of_lt_of_le h (Nat.pow_le_pow_right (by decide) hn))
  omega
theorem zO {i:Int} {n:Nat} (h:i.natAbs < 2 ^ n) (hn:n≤1900):(PyData.int i).shown.length≤1921:=by
 have q:=int_text_length_le (a:=i) (k:=1920) (by decide) (zN h hn)
 have e:(PyData.int i).shown.length=(toString i).length:=by
  show (Str.ofString (toString i)).length=_
  exact PySem.ofString_length _
 omega
theorem zZ {r q:R} (h:PyData.eqv (dR r) (dR q)=true):r=q:=by
 have z:(r.1 == q.1 && (r.2 == q.2 && true))=true:=h
 simp only [Bool.and_true,Bool.and_eq_true,beq_iff_eq] at z
 exact Prod.ext z.1 z.2
theorem ur (r:R):PyData.eqv (dR r) (dR r)=true:=by
 show (r.1 == r.1 && (r.2 == r.2 && true))=true
 simp
end B
namespace B
open PySem L2 PyProof.Rows
def dL (rs:List R):PyData:=.list (rs.map dR)
def BQ (K:PySem.W.Frag) (tl:TE):TI:=fun σ H R=>tl σ H fun x H1=>(∃ a,x=.ref a/\(∃ xs,aF K H1 a xs)/\R (oh K a) H1)∨(∃ a,x=.ref a/\(∃ xs,bS K H1 a xs)/\R (AF K a) H1)
theorem yQ {X:Cx} {tg l:Expr} {tl:TE} (hl:PE X l tl):PI X tg l (BQ X.K tl):=by
 intro pins s σ H R I h
 refine bc (hl pins s σ H _ I h) fun v s1 ⟨x,H1,I1,r1,q1⟩=>?_
 rcases q1 with ⟨a,e,⟨xs,hq⟩,q⟩ | ⟨a,e,⟨xs,hq⟩,q⟩
 ·subst e;cases r1
  obtain⟨its,rv,p,hz⟩:=I1.list hq
  refine wpAny_pyIter_list p.isList ?_
  refine⟨s1.heap.objs.size,[s1.heap.objs.size],_,_,H1,rfl,I1.kept (t':=s1.toks) fun b o e=>Heap.get?_push_of_some _ e,jC a _,⟨_,Heap.get?_push_size _ rfl,rfl,rfl⟩,fun b hb=>?_,q⟩
  have e:b=s1.heap.objs.size:=by simpa using hb
  subst e
  exact I1.fpOk (Nat.le_refl _) (I1.hok.fresh (Nat.le_refl _))
 ·subst e;cases r1
  obtain⟨its,rv,p,hz⟩:=I1.tuple hq
  refine wpAny_pyIter_tuple (show s1.heap.IsTuple a its.toArray from p) ?_
  refine⟨s1.heap.objs.size,[s1.heap.objs.size],_,_,H1,rfl,I1.kept (t':=s1.toks) fun b o e=>Heap.get?_push_of_some _ e,mG a _,⟨_,Heap.get?_push_size _ rfl,rfl,rfl⟩,fun b hb=>?_,q⟩
  have e:b=s1.heap.objs.size:=by simpa using hb
  subst e
  exact I1.fpOk (Nat.le_refl _) (I1.hok.fresh (Nat.le_refl _))
end B
namespace B
structure eQ (r:R):Prop where
 pos:0 < r.2
 cop:Int.gcd r.1 r.2=1
theorem iw {a b:Int} (hb:0 < b):eQ (cX a b):=
 ⟨Int.ediv_pos_of_pos_of_dvd hb (Int.le_of_lt (bo hb)) (Int.gcd_dvd_right a b),Int.gcd_ediv_gcd_ediv_gcd (by have:=bo (a:=a) hb;omega)⟩
theorem dk {a b x y:Int} (hb:0 < b) (hy:0 < y) (g:Int.gcd x y=1) (e:x * b=a * y):cX a b=(x,y):=by
 have h1:Int.gcd (a * y) (b * y)=Int.gcd a b * y.natAbs:=Int.gcd_mul_right a y b
 have h2:Int.gcd (x * b) (y * b)=Int.gcd x y * b.natAbs:=Int.gcd_mul_right x b y
 rw [e,Int.mul_comm y b,h1,g,Nat.one_mul] at h2
 have h3:(Int.gcd a b:Int) * y=b:=by
  have z:((Int.gcd a b * y.natAbs:Nat):Int)=(b.natAbs:Int):=congrArg _ h2
  rw [Int.natCast_mul,Int.natAbs_of_nonneg (by omega),Int.natAbs_of_nonneg (by omega)] at z
  exact z
 have gp:=bo (a:=a) hb
 have h4:a=x * (Int.gcd a b:Int):=by
  have z:x * (Int.gcd a b:Int) * y=a * y:=by rw [Int.mul_assoc,h3];exact e
  exact (Int.eq_of_mul_eq_mul_right (by omega) z).symm
 unfold cX
 generalize (Int.gcd a b:Int)=G at h3 h4 gp
 subst h4
 subst h3
 rw [Int.mul_ediv_cancel _ (by omega),Int.mul_ediv_cancel_left _ (by omega)]
theorem fc {a b c:Int} (h:Int.gcd a b=1) (d:c∣a):Int.gcd c b=1:=
 Int.gcd_eq_one_iff.mpr fun z h1 h2=>Int.gcd_eq_one_iff.mp h z (Int.dvd_trans h1 d) h2
theorem fz {a b c:Int} (h:Int.gcd a b=1) (d:c∣b):Int.gcd a c=1:=by
 rw [Int.gcd_comm]
 exact fc (by rw [Int.gcd_comm];exact h) d
theorem iA {a b c:Int} (h:Int.gcd a b=1) (k:Int.gcd a c=1):Int.gcd a (b * c)=1:=by
 rw [Int.gcd_mul_right_right_of_gcd_eq_one h];exact k
theorem gA {a b c:Int} (h:Int.gcd a c=1) (k:Int.gcd b c=1):Int.gcd (a * b) c=1:=by
 rw [Int.gcd_comm]
 exact iA (by rw [Int.gcd_comm];exact h) (by rw [Int.gcd_comm];exact k)
theorem di {a b:Int} (hb:0 < b):∃ g x y:Int,(Int.gcd a b:Int)=g/\0 < g/\a=g * x/\b=g * y/\Int.gcd x y=1:=by
 have gp:=bo (a:=a) hb
 obtain⟨x,hx⟩:=Int.gcd_dvd_left a b
 obtain⟨y,hy⟩:=Int.gcd_dvd_right a b
 refine⟨_,x,y,rfl,gp,hx,hy,?_⟩
 have z:=Int.gcd_ediv_gcd_ediv_gcd (i:=a) (j:=b) (by omega)
 have e1:a / (Int.gcd a b:Int)=x:=by
  conv=>lhs;lhs;rw [hx]
  exact Int.mul_ediv_cancel_left _ (by omega)
 have e2:b / (Int.gcd a b:Int)=y:=by
  conv=>lhs;lhs;rw [hy]
  exact Int.mul_ediv_cancel_left _ (by omega)
 rw [e1,e2] at z
 exact z
theorem fW {g y b:Int} (hb:0 < b) (hg:0 < g) (e:b=g * y):0 < y:=by
 rcases Int.lt_or_le 0 y with h | h
 ·exact h
 ·have:=Int.mul_le_mul_of_nonneg_left h (Int.le_of_lt hg)
  rw [Int.mul_zero] at this
  omega
def lU (r q:R):R:=
 let d:Int:=(Int.gcd r.2 q.2:Nat)
 let t:=r.1 * (q.2 / d)+q.1 * (r.2 / d)
 let e:Int:=(Int.gcd t d:Nat)
 (t / e,r.2 / d * (q.2 / e))
theorem sR {r q:R} (hr:eQ r) (hq:eQ q):lU r q=bU r q:=by
 obtain⟨d,u,v,e0,dp,e1,e2,cuv⟩:=di (a:=r.2) hq.pos
 have up:=fW hr.pos dp e1
 have vp:=fW hq.pos dp e2
 obtain⟨e,x,w,f0,ep,f1,f2,cxw⟩:=di (a:=r.1 * v+q.1 * u) dp
 have wp:=fW dp ep f2
 have du:r.2 / d=u:=by rw [e1];exact Int.mul_ediv_cancel_left _ (by omega)
 have dv:q.2 / d=v:=by rw [e2];exact Int.mul_ediv_cancel_left _ (by omega)
 have te:(r.1 * v+q.1 * u) / e=x:=by rw [f1];exact Int.mul_ediv_cancel_left _ (by omega)
 have qe:q.2 / e=w * v:=by rw [e2,f2,Int.mul_assoc];exact Int.mul_ediv_cancel_left _ (by omega)
 have c1:Int.gcd r.1 u=1:=fz hr.cop ⟨d,by rw [e1,Int.mul_comm]⟩
 have c2:Int.gcd q.1 v=1:=fz hq.cop ⟨d,by rw [e2,Int.mul_comm]⟩
 have xd:x∣(r.1 * v+q.1 * u):=⟨e,by rw [f1,Int.mul_comm]⟩
 have t1:Int.gcd (r.1 * v+q.1 * u) u=1:=by
  rw [Int.gcd_comm,Int.gcd_add_mul_right_right,Int.gcd_comm]
  exact gA c1 (by rw [Int.gcd_comm];exact cuv)
 have t2:Int.gcd (r.1 * v+q.1 * u) v=1:=by
  rw [Int.add_comm,Int.gcd_comm,Int.gcd_add_mul_right_right,Int.gcd_comm]
  exact gA c2 cuv
 have cx:Int.gcd x (u * (w * v))=1:=iA (fc t1 xd) (iA cxw (fc t2 xd))
 have z:lU r q=(x,u * (w * v)):=by
  unfold lU
  simp only [e0,du,dv,f0,te,qe]
 rw [z]
 unfold bU
 refine (dk (Int.mul_pos hr.pos hq.pos) (Int.mul_pos up (Int.mul_pos wp vp)) cx ?_).symm
 have k:r.1 * q.2+q.1 * r.2=d * (e * x):=by
  rw [e1,e2,← f1,Int.mul_add]
  rw [Int.mul_left_comm r.1 d v,Int.mul_left_comm q.1 d u]
 rw [k,e1,e2]
 have k2:d * u * (d * v)=d * u * (e * w * v):=by rw [← f2]
 rw [k2]
 ac_rfl
def iE (r q:R):R:=
 let l:Int:=(Int.gcd r.1 q.2:Nat)
 let m:Int:=(Int.gcd q.1 r.2:Nat)
 (r.1 / l * (q.1 / m),r.2 / m * (q.2 / l))
theorem pC {r q:R} (hr:eQ r) (hq:eQ q):iE r q=bA r q:=by
 obtain⟨l,a,b,e0,lp,e1,e2,cab⟩:=di (a:=r.1) hq.pos
 obtain⟨m,c,d,f0,mp,f1,f2,ccd⟩:=di (a:=q.1) hr.pos
 have bp:=fW hq.pos lp e2
 have dp:=fW hr.pos mp f2
 have z:iE r q=(a * c,d * b):=by
  unfold iE
  simp only [e0,f0]
  rw [show r.1 / l=a by rw [e1];exact Int.mul_ediv_cancel_left _ (by omega),show q.2 / l=b by rw [e2];exact Int.mul_ediv_cancel_left _ (by omega),
   show q.1 / m=c by rw [f1];exact Int.mul_ediv_cancel_left _ (by omega),show r.2 / m=d by rw [f2];exact Int.mul_ediv_cancel_left _ (by omega)]
 have cad:Int.gcd a d=1:=fc (fz hr.cop ⟨m,by rw [f2,Int.mul_comm]⟩) ⟨l,by rw [e1,Int.mul_comm]⟩
 have ccb:Int.gcd c b=1:=fc (fz hq.cop ⟨l,by rw [e2,Int.mul_comm]⟩) ⟨m,by rw [f1,Int.mul_comm]⟩
 rw [z]
 unfold bA
 refine (dk (Int.mul_pos hr.pos hq.pos) (Int.mul_pos dp bp) (iA (gA cad ccd) (gA cab ccb)) ?_).symm
 rw [e1,e2,f1,f2]
 ac_rfl
theorem lT {r q:R} (hr:eQ r) (hq:eQ q):eQ (bU r q):=iw (Int.mul_pos hr.pos hq.pos)
theorem pB {r q:R} (hr:eQ r) (hq:eQ q):eQ (bA r q):=iw (Int.mul_pos hr.pos hq.pos)
end B
namespace B
open PySem L2 PyProof.Rows
def ED (_ j:Int):Prop:=j≠0/\j.natAbs < 2 ^ 4000
def Fg (a b:Int):R:=if b < 0 then cX (-a) (-b) else cX a b
def tP (r q:R):R:=cX (r.1 * q.2 - q.1 * r.2) (r.2 * q.2)
def BB (r q:R):R:=Fg (r.1 * q.2) (r.2 * q.1)
structure Ev (d:PyData):Prop where
 sh:d.showable=true
 nd:d.hasDict=false
 sz:d.shown.length≤5000
 dp:d.depth≤8
end B
namespace B
theorem jM {a b:Int} (hb:0 < b):(cX a b).1 * b=a * (cX a b).2:=by
 obtain⟨g,x,y,_,gp,e1,e2,c⟩:=di (a:=a) hb
 have yp:=fW hb gp e2
 have e:x * b=a * y:=by rw [e1,e2];ac_rfl
 rw [dk hb yp c e]
 exact e
end B
namespace B
open PySem PySem.Spec L2 PyProof.Rows
section
variable {prog:Program} {w:World} {A:Around} {E:Value->Shared->Prop} {h:Heap} {g:Array GenState} {d:Drawn} {t:Nat} {os:OsState} {K:PySem.W.Frag}
variable {nm q:Str} {C N:Addr} {bs bm bmB:List Value} {hdct:Bool} {sn:List Str} {sub:List Value} {ab:Bool} {col:Option Bool} {dd:Option Addr} {k0 k1 k2 k3 k5:Option Value} {bN newId initId:String}
end
def AQ:List Value:=[.type "ValueError", .type "Exception", .type "BaseException", .type "object"]
structure qu (K:PySem.W.Frag) (C:Addr) (bm:List Value):Prop where
 ob:∃ nm q N bs hdct sn sub ab col dd k0 k1 k2 k3 k5,K.lookup C=some (excClassObj nm q C N bs bm hdct sn sub ab col dd k0 k1 k2 k3 k5 "ValueError.__new__")
 tl:∀ h:Heap,K.In h->OwnTail h AQ bm
 hd:PySem.W.hasDictIn K C=true
 sa:PySem.W.findIn K (.ref C) "__setattr__" = some (some (.builtin "object.__setattr__"))
section
variable {prog:Program} {w:World} {A:Around} {s:Shared} {K:PySem.W.Frag} {x C:Addr} {R:Result->Shared->Prop}
end
def Dz (a C:Addr) (dx:Option Addr):Heap->Prop:=fun h=>∃ t:Addr,h.get? a=some { cls:=.ref C,dict:=dx,data:=.fields #[.ref t,.none,.none,.none,.bool false,.none] }
def uq (a C:Addr) (dx:Option Addr):HO:=.ext (Dz a C dx)
def Eo (H:Hp) (a:Addr):Hp:=fun b=>if b=a then none else H b
section
variable {X:Cx} {pins:List (Addr×Obj)} {σ:L2.St} {H:Hp} {s:Shared} {a C:Addr} {dx:Option Addr}
end
def Et (h:Heap) (H:Hp) (x C T:Addr) (a0:Value):Prop:=
 ∃ oe vs oT ts,h.get? x=some oe/\oe.cls=.ref C/\vs[0]?=some a0/\oe.data=.fields vs/\vs[1]?=some (.ref T)/\H T=none/\T≠x/\h.get? T=some oT/\oT.data=.fields ts/\ts[3]?=some .none
def F3 (P:Program) (w:World):mD:=fun outer H s E e s'=>∃ (x C T:Addr) (a0:Value) (H':Hp),e=.ref x/\s'.os=s.os/\AllBare s'.gens/\Un (oS outer) [] H H' s.heap s'.heap/\fN P w H' s'.heap/\s.heap.get? x=none/\s.heap.get? T=none/\H' x=none∧
 Et s'.heap H' x C T a0/\E (.ref C) none H'
structure j2 (X:Cx) (pins:List (Addr×Obj)) (a:Addr):Prop where
 st:X.s₀.heap.get? a=none
 lo:a≠X.env.locals
 ce:∀ x c,X.env.cells.lookup x=some c->c≠a
 pi:∀ p∈X.pn++pins,p.1≠a
 fr:a∉oS X.stack
section
variable {X:Cx} {pins:List (Addr×Obj)} {σ:L2.St} {H H':Hp} {s:Shared} {a:Addr}
end
section
variable {X:Cx} {pins:List (Addr×Obj)} {σ:L2.St} {H:Hp} {s:Shared} {a:Addr} {o:HO}
end
structure XC (K:PySem.W.Frag) (C f:Addr) (bm:List Value):Prop where
 ob:∃ nm q N bs hdct sn sub ab col dd k0 k1 k2 k3 k5,K.lookup C=some (excClassObj nm q C N bs bm hdct sn sub ab col dd k0 k1 k2 k3 k5 "ValueError.__new__")
 tl:∀ h:Heap,K.In h->OwnTail h AQ bm
 init:PySem.W.findIn K (.ref C) "__init__" = some (some (.ref f))
 fn:PySem.W.typeIn K (.ref f)=some (.type "function")
 kp:PySem.W.keepIn K (.ref C)=true
 cl:qu K C bm
section
variable {X:Cx} {k:Nat} {f C:Addr} {fd:FuncData} {ps:List Str} {sp:Sp} {bm:List Value}
def Eu (X:Cx) (E:XK):Prop:=∀ (pins:List (Addr×Obj)) (σ:L2.St) (H:Hp) (s:Shared) (a C:Addr) (oe:Obj) (vs:Array Value) (a0:Value),L2.Inv X pins σ H s->H a=none->j2 X pins a->s.heap.get? a=some oe->oe.data=.fields vs→
 vs[0]?=some a0->vs[1]?=some .none->oe.cls=.ref C->E (.ref C) none H->X.xe (.ref a) s
def CQ (C:Addr) (sp:Sp) (E:XK) (t:TA):TS:=fun _ σ H=>t σ H fun vs H1=>vs.length≤sizeLine/\∀ a,H1 a=none->sp (.ref a :: vs) (ax H1 a (uq a C none)) (fun v H2=>v=.non/\(∃ dx,H2 a=some (uq a C dx))/\E (.ref C) none (Eo H2 a)) E0
end
section
variable {X:Cx} {pins:List (Addr×Obj)} {σ:L2.St} {H:Hp} {s:Shared} {a C T:Addr} {a0:Value}
end
def wd (N:List Str):L2.St:=List.replicate N.length none
def FA (X:Cx) (pins:List (Addr×Obj)) (R:Addr->Hp->Prop):Value->Shared->Prop:=fun e s=>∃ (x C T:Addr) (a0:Value) (H:Hp),e=.ref x/\L2.Inv X pins (wd X.N) H s/\H x=none/\j2 X pins x/\j2 X pins T/\Et s.heap H x C T a0/\R C H
def Ei (X:Cx) (pins:List (Addr×Obj)) (R:Addr->Hp->Prop):Cx:={ X with pn:=X.pn++pins,xe:=FA X pins R }
def Ej (X:Cx) (e:Addr):Cx:={ X with A:=X.A.mark (some (.ref e)),calm:=false,xe:=fun _ _=>False }
section
variable {X:Cx} {pins pins':List (Addr×Obj)} {σ:L2.St} {H:Hp} {s:Shared} {R:Addr->Hp->Prop} {e:Addr}
end
def EQ (N:List Str) (R:Addr->Hp->Prop) (Ok:Addr->Prop) (tb:TS) (th:TS):TS:=fun D σ H=>tb D σ H/\∀ C H',R C H'->Ok C/\th D (wd N) H'
section
variable {X:Cx} {R:Addr->Hp->Prop} {body:List Stmt} {b₀:Stmt} {suite:List Stmt} {x:Str} {p hpos pos:Pos} {u:Value} {tb th:TS}
end
section
variable {X:Cx} {o value:Expr} {f:Str} {ta tv:TE} {pos' pos:Pos}
def DV (K:PySem.W.Frag) (ta tv:TE) (f:Str):TS:=fun D σ H=>tv σ H fun _ H1=>ta σ H1 fun x H2=>∃ a C bm,x=.ref a/\H2 a=some (uq a C none)/\qu K C bm/\cv K C f/\∀ d,D.nx σ (ax H2 a (uq a C (some d)))
end
def FE (R:Addr->Hp->Prop):XK:=fun v _ H=>∃ C,v=.ref C/\R C H
def A2 (es:Array DictEntry):Bool:=es.toList.all fun e=>match e.key with
 | .str _ _=>true
 | _=>false
structure At (K:PySem.W.Frag) (C:Addr):Prop where
 ga:PySem.W.findIn K (.ref C) "__getattribute__" = some (some (.builtin "BaseException.__getattribute__"))
 gn:PySem.W.findIn K (.ref C) "__getattr__" = some none
 cl:PySem.W.findIn K (.ref C) "__class__" = some (some (.builtin "object.__class__"))
 cg:PySem.W.specialIn K (.builtin "object.__class__") "__get__" = some (some (.builtin "getset_descriptor.__get__"))
 ct:PySem.W.takesIn K (.builtin "object.__class__")=some true
section
variable {prog:Program} {w:World} {A:Around} {E:Value->Shared->Prop} {s:Shared} {K:PySem.W.Frag} {x C:Addr} {ox:Obj} {odo:Option Obj} {bm:List Value} {name:Str} {tk:Tok} {R:Result->Shared->Prop}
end
section
variable {K:PySem.W.Frag} {x C:Addr} {ox od:Obj} {bm:List Value}
end
structure Fv (S ch:List Addr) (h h':Heap):Prop where
 same:∀ b o,b∉S->b∉ch->h.get? b=some o->h'.get? b=some o
 slot:∀ b o,b∉ch->h.get? b=some o->∃ sl,h'.get? b=some { o with slots:=sl }
def Ca (h:Heap) (x C T:Addr) (dx:Option Addr) (fl:Value):Prop:=
 ∃ oe vs oT ts,h.get? x=some oe/\oe.cls=.ref C/\oe.dict=dx/\oe.data=.fields vs/\vs[1]?=some (.ref T)/\T≠x/\h.get? T=some oT/\oT.data=.fields ts/\ts[3]?=some fl
section
variable {M:Model} {A:Around} {E:Value->Shared->Prop} {s:Shared} {base:Heap} {env:Env} {outer:List Env} {L e C T:Addr} {oe:Obj} {vs:Array Value} {dx:Option Addr} {fl:Value}
end
def DA (d:Addr) (fs:List (Str×V)):Heap->Prop:=fun h=>∃ mA,h.Ns1 d mA/\∀ f,eE (fs.lookup f) (mA f)
def dO (d:Addr) (fs:List (Str×V)):HO:=.ext (DA d fs)
section
variable {X:Cx} {pins:List (Addr×Obj)} {σ:L2.St} {H:Hp} {s:Shared} {a C:Addr}
end
section
variable {X:Cx} {o value:Expr} {f:Str} {ta tv:TE} {pos' pos:Pos}
def DW (K:PySem.W.Frag) (ta tv:TE) (f:Str):TS:=fun D σ H=>tv σ H fun y H1=>ta σ H1 fun x H2=>∃ a C bm,x=.ref a/\qu K C bm/\cv K C f∧
 ((H2 a=some (uq a C none)/\∀ d,H2 d=none->d≠a->D.nx σ (ax (ax H2 a (uq a C (some d))) d (dO d [(f,y)])))∨
  ∃ d fs,H2 a=some (uq a C (some d))/\H2 d=some (dO d fs)/\fs.length≤100/\D.nx σ (ax H2 d (dO d ((f,y) :: fs))))
end
section
variable {X:Cx} {pins:List (Addr×Obj)} {σ:L2.St} {H:Hp} {s:Shared} {a C T:Addr} {dx:Option Addr} {fl:Value}
end
def F4 (P:Program) (w:World):mD:=fun outer H s E e s'=>∃ (x C T:Addr) (dx:Option Addr) (H':Hp),e=.ref x/\s'.os=s.os/\AllBare s'.gens/\Un (oS outer) [] H H' s.heap s'.heap/\fN P w H' s'.heap/\s.heap.get? x=none/\s.heap.get? T=none/\H' x=none/\H' T=none∧
 Ca s'.heap x C T dx .none/\E (.ref C) dx H'
section
variable {P:Program} {w:World} {K:PySem.W.Frag} {mg:Str->Option Value} {base:Heap} {N:List Str} {qual:Str} {scope:Scope} {f:Addr} {cd:Value} {A:Around} {outer:List Env} {s:Shared} {H:Hp} {E:XK}
def Dr (X:Cx) (E:XK):Prop:=∀ (pins:List (Addr×Obj)) (σ:L2.St) (H:Hp) (s:Shared) (a C:Addr) (dx:Option Addr) (oe:Obj) (vs:Array Value),L2.Inv X pins σ H s->H a=none->j2 X pins a->s.heap.get? a=some oe->oe.data=.fields vs→
 vs[1]?=some .none->oe.cls=.ref C->oe.dict=dx->E (.ref C) dx H->X.xe (.ref a) s
end
section
variable {X:Cx} {k:Nat} {f C:Addr} {fd:FuncData} {ps:List Str} {sp:Sp} {bm:List Value}
def Cl (C:Addr) (sp:Sp) (E:XK) (t:TA):TS:=fun _ σ H=>t σ H fun vs H1=>vs.length≤sizeLine/\∀ a,H1 a=none->sp (.ref a :: vs) (ax H1 a (uq a C none)) (fun v H2=>v=.non/\∃ dx,H2 a=some (uq a C dx)/\E (.ref C) dx (Eo H2 a)) E0
end
abbrev RX:=Addr->Option Addr->Hp->Prop
def Dy (X:Cx) (pins:List (Addr×Obj)) (R:RX):Value->Shared->Prop:=fun e s=>∃ (x C T:Addr) (dx:Option Addr) (H:Hp),e=.ref x/\L2.Inv X pins (wd X.N) H s/\H x=none/\j2 X pins x/\H T=none/\j2 X pins T/\Ca s.heap x C T dx .none/\R C dx H
def Di (X:Cx) (pins:List (Addr×Obj)) (R:RX):Cx:={ X with pn:=X.pn++pins,xe:=Dy X pins R }
section
variable {X:Cx} {pins pins':List (Addr×Obj)} {σ:L2.St} {H:Hp} {s:Shared} {R:RX} {e:Addr}
def FF (R:RX):XK:=fun v dx H=>∃ C,v=.ref C/\R C dx H
end
def FD (a C d:Addr):Heap->Prop:=fun h=>∃ oe,h.get? a=some oe/\oe.cls=.ref C/\oe.dict=some d/\PySem.W.notCls oe=true
def Dm (a C d:Addr):HO:=.ext (FD a C d)
def Dl (i:Nat) (D:im):im:={ nx:=fun σ H=>D.nx (σ.set i none) H,rt:=D.rt,bk:=fun σ H=>D.bk (σ.set i none) H,ct:=fun σ H=>D.ct (σ.set i none) H }
def DI (N:List Str) (R:RX) (Ok:Addr->Prop) (tb th:TS):TS:=fun D σ H=>tb D σ H/\∀ C dx H',R C dx H'->Ok C/\th D (wd N) H'
def CO (N:List Str) (i:Nat) (R:RX) (Ok:Addr->Prop) (tb th:TS):TS:=fun D σ H=>tb D σ H/\∀ C dx H',R C dx H'->Ok C/\∃ d,dx=some d/\∀ a,H' a=none->th (Dl i D) ((wd N).set i (some (.ref a))) (ax H' a (Dm a C d))
section
variable {X:Cx} {R:RX} {body:List Stmt} {b₀:Stmt} {suite:List Stmt} {x:Str} {p hpos pos:Pos} {u:Value} {tb th:TS}
end
def Fc (K:PySem.W.Frag):List V->Hp->VK->Prop:=fun xs H Q=>∃ (a C d:Addr) (fs:List (Str×V)) (bm:List Value) (c:V) (b:Bool),xs=[.ref a,c]/\H a=some (Dm a C d)/\H d=some (dO d fs)/\qu K C bm/\At K C∧
 ((∃ n,c=.ty n/\PySem.W.kitOne K (.ref C) (.type n)=some b)∨(∃ D,c=.ref D/\PySem.W.kitOne K (.ref C) (.ref D)=some b)∨
  ∃ (p:Addr) (cs:List Addr),c=.ref p/\H p=some (.tup (cs.map V.ref))/\PySem.W.kitAny K (.ref C) (cs.map Value.ref)=some b)/\Q (.bl b) H
def xD (H:Hp) (a C d:Addr):Prop:=H a=some (Dm a C d)∨H a=some (uq a C (some d))
section
variable {X:Cx} {pins:List (Addr×Obj)} {σ:L2.St} {H:Hp} {s:Shared} {a C d:Addr} {fs:List (Str×V)}
end
def DP (K:PySem.W.Frag) (ta:TE) (f:Str):TE:=fun σ H Q=>ta σ H fun x H1=>∃ a C d fs bm v,x=.ref a/\xD H1 a C d/\H1 d=some (dO d fs)/\qu K C bm/\At K C/\cv K C f/\fs.lookup f=some v/\Q v H1
def Fb (K:PySem.W.Frag):List V->Hp->VK->Prop:=fun xs H Q=>∃ (a C d:Addr) (fs:List (Str×V)) (bm:List Value) (c:V) (b:Bool),xs=[.ref a,c]/\xD H a C d/\H d=some (dO d fs)/\qu K C bm/\At K C∧
 ((∃ n,c=.ty n/\PySem.W.kitOne K (.ref C) (.type n)=some b)∨(∃ D,c=.ref D/\PySem.W.kitOne K (.ref C) (.ref D)=some b)∨
  ∃ (p:Addr) (cs:List Addr),c=.ref p/\H p=some (.tup (cs.map V.ref))/\PySem.W.kitAny K (.ref C) (cs.map Value.ref)=some b)/\Q (.bl b) H
def CS (C:Addr) (sp:Sp) (t:TA):TE:=fun σ H Q=>t σ H fun vs H1=>vs.length≤sizeLine/\∀ a,H1 a=none->sp (.ref a :: vs) (ax H1 a (uq a C none)) (fun v H2=>v=.non/\Q (.ref a) H2) E0
theorem ou {X:Cx} {pins:List (Addr×Obj)} {σ:L2.St} {H:Hp} {s:Shared} {h':Heap} {t':Nat} {fp:List Addr} (I:Inv X pins σ H s)
  (k:∀ b o,b∉fp->s.heap.get? b=some o->h'.get? b=some o) (hf:∀ b∈fp,fh X pins H b):Inv X pins σ H { s with heap:=h',toks:=t' }:=by
 have off:∀ b u,H b=some u->b∉fp:=fun b u e z=>by rw [(hf b z).1] at e;cases e
 refine I.step (g':=s.gens) (d':=s.drawn) (ch:=fp) (fun b hb=>?_) (fun b o _ _ hc e _=>k b o hc e) (fun b o _ _ hc e _=>⟨o.slots,k b o hc e⟩) (fun _ _ _ _ n=>n)
  (fun b o hc e=>⟨o,k b o hc e⟩) (fun _ _ e=>e) (fun _ _ _ e=>e) (fun b ps e=>⟨#[],by rw [e];simp⟩) (fun m hm=>?_) (fun b u e=>?_) I.bare
 ·obtain⟨_,f1,_,f3,f4,f5⟩:=hf b hb
  exact⟨f3,f1,f4,f5⟩
 ·obtain⟨o,es,ep,ho,r⟩:=hm
  exact⟨o,es,ep,k _ o (fun z=>(hf _ z).2.1 rfl) ho,r⟩
 ·refine (I.hok b u e).stay (fun c v hc q=>k c v ?_ q) (fun _ q=>q) fun _ _ q=>q
  rcases hc with z | z
  ·rw [z];exact off b u e
  ·exact off c _ z
section
variable {prog:Program} {w:World} {A:Around} {E:Value->Shared->Prop} {s:Shared}
structure FB (z TI TO i1 i2:Addr):Prop where
 a1:TI≠z
 a2:TO≠z
 a3:i1≠z
 a4:i2≠z
 a5:TI≠TO
 a6:TI≠i1
 a7:TI≠i2
 a8:TO≠i1
 a9:TO≠i2
 b1:i1≠i2
end
theorem ot {X:Cx} {pins:List (Addr×Obj)} {σ:L2.St} {H:Hp} {s:Shared} {h':Heap} {t':Nat} {fp:List Addr} {p:Addr} {v:HO} (I:Inv X pins σ H s)
  (k:∀ b o,b∉fp->s.heap.get? b=some o->h'.get? b=some o) (hf:∀ b∈fp,fh X pins H b) (hp:s.heap.objs.size≤p) (new:bf X.prog X.w (ax H p v) h' p v) :
  Inv X pins σ (ax H p v) { s with heap:=h',toks:=t' }:=by
 have off:∀ b u,H b=some u->b∉fp:=fun b u e z=>by rw [(hf b z).1] at e;cases e
 have hn:H p=none:=I.hok.fresh hp
 have old:∀ b u,H b=some u->ax H p v b=some u:=fun b u e=>by rw [aj (ay e hn)];exact e
 refine I.step (g':=s.gens) (d':=s.drawn) (ch:=fp) (fun b hb=>?_) (fun b o _ _ hc e _=>k b o hc e) (fun b o _ _ hc e _=>⟨o.slots,k b o hc e⟩) (fun b o _ e n=>?_)
  (fun b o hc e=>⟨o,k b o hc e⟩) (fun b xs e=>old b _ e) (fun b o u e=>old b _ e) (fun b ps e=>⟨#[],by rw [old b _ e];simp⟩) (fun m hm=>?_) (fun b u e=>?_) I.bare
 ·obtain⟨_,f1,_,f3,f4,f5⟩:=hf b hb
  exact⟨f3,f1,f4,f5⟩
 ·rw [aj (Nat.ne_of_lt (Nat.lt_of_lt_of_le (Heap.lt_size e) hp))];exact n
 ·obtain⟨o,es,ep,ho,r⟩:=hm
  exact⟨o,es,ep,k _ o (fun z=>(hf _ z).2.1 rfl) ho,r⟩
 ·by_cases hb:b=p
  ·subst hb;rw [ae] at e;cases e;exact new
  ·rw [aj hb] at e
   refine (I.hok b u e).stay (fun c v hc q=>k c v ?_ q) (fun c q=>old c _ q) fun c xs q=>old c _ q
   rcases hc with z | z
   ·rw [z];exact off b u e
   ·exact off c _ z
def Fw (K:PySem.W.Frag) (a b:Addr):It:=
 ⟨fun i H=>∃ xs ys x y,bS K H a xs/\bS K H b ys/\xs[i]?=some x/\ys[i]?=some y,
  fun i H v H'=>∃ p x y,H p=none/\v=.ref p/\H'=ax H p (.tup [x,y])/\(∀ xs,bS K H a xs->xs[i]?=some x)/\∀ ys,bS K H b ys->ys[i]?=some y,
  fun i H=>∃ xs ys,bS K H a xs/\bS K H b ys/\(xs.length≤i∨ys.length≤i)⟩
def FW (z TI TO i1 i2 a b:Addr) (i:Nat) (h:Heap):Prop:=IsZip h z TI TO .none/\IsPair h TI (.ref i1) (.ref i2)/\(∃ u v,IsPair h TO u v)/\h.IsTupleIter i1 a i/\h.IsTupleIter i2 b i
abbrev zA (h:Heap) (a:Addr):Heap:=h.push { cls:=.type "tuple_iterator", data:=.fields #[.ref a,.int 0 0] }
abbrev zB (h:Heap) (a b:Addr):Heap:=zA (zA h a) b
abbrev zC (h:Heap) (a b:Addr):Heap:=(zB h a b).push { cls:=.type "tuple", data:=.seq #[.ref h.objs.size,.ref (zA h a).objs.size] }
abbrev zD (h:Heap) (a b:Addr):Heap:=(zC h a b).push { cls:=.type "tuple", data:=.seq #[.none,.none] }
abbrev zE (h:Heap) (a b:Addr):Heap:=(zD h a b).push { cls:=.type "zip", data:=.fields #[.none,.bool false,.bool false,.ref (zB h a b).objs.size,.ref (zC h a b).objs.size] }
def Fh (K:PySem.W.Frag) (ta:TA):TI:=fun σ H R=>ta σ H fun vs H1=>∃ a b,vs=[.ref a,.ref b]/\(∃ xs,bS K H1 a xs)/\(∃ ys,bS K H1 b ys)/\R (Fw K a b) H1
theorem oB {X:Cx} {pins:List (Addr×Obj)} {σ:L2.St} {H:Hp} {s:Shared} {a b:Addr} {xs:List V} (I:Inv X pins σ H s) (h:aF X.K H a xs) (f:fh X pins H b):a≠b:=fun z=>by
 subst z
 rcases h with (h | ⟨o,h⟩) | ⟨o,its,n,hk,_⟩
 ·rw [f.1] at h;cases h
 ·rw [f.1] at h;cases h
 ·have e:=I.ok.mod.kin a o hk
  rcases f.2.2.2.1 with z | z
  ·exact I.ok.noex a o e z
  ·rw [(I.ok.bs a o e).1] at z;cases z
theorem iX {h h':Heap} {i a:Addr} {n:Nat} (x:h.IsListIter i a n) (k:∀ o,h.get? i=some o->h'.get? i=some o):h'.IsListIter i a n:=x.at k
def Dw (K:PySem.W.Frag) (a:Addr):It:=
 ⟨fun i H=>∃ xs x,bS K H a xs/\xs[i]?=some x,
  fun i H v H'=>∃ p x,H p=none/\v=.ref p/\H'=ax H p (.tup [.int i,x])/\∀ xs,bS K H a xs->xs[i]?=some x,
  fun i H=>∃ xs,bS K H a xs/\xs.length≤i⟩
def Fj (K:PySem.W.Frag) (ta:TA):TI:=fun σ H R=>ta σ H fun vs H1=>∃ a,vs=[.ref a]/\(∃ xs,bS K H1 a xs)/\R (Dw K a) H1
def As (K:PySem.W.Frag) (a:Addr):It:=
 ⟨fun i H=>∃ xs x,aF K H a xs/\xs[i]?=some x,
  fun i H v H'=>∃ p x,H p=none/\v=.ref p/\H'=ax H p (.tup [.int i,x])/\∀ xs,aF K H a xs->xs[i]?=some x,
  fun i H=>∃ xs,aF K H a xs/\xs.length≤i⟩
theorem qA {P:Program} {w:World} {K:PySem.W.Frag} {elts:List Expr} {x1} {pos:Pos} {e it a:Addr} (hei:e≠it) :
  nW P w K (.Tuple elts x1 pos) (As K a) [e,it] e (fun i h=>(∃ old,IsEnum h e it (i:Nat) old)/\h.IsListIter it a i) where
 mem:=by simp
 obj:=fun i h st c hc=>by
  obtain⟨⟨old,h1⟩,⟨o2,h2,c2,d2⟩⟩:=st
  simp only [List.mem_cons,List.not_mem_nil,or_false] at hc
  rcases hc with rfl | rfl
  ·exact⟨_,h1,fun v q=>by cases (show Data.fields _=Data.cell v from q)⟩
  ·exact⟨o2,h2,fun v q=>by rw [d2] at q;cases q⟩
 keep:=fun i h h' st k=>by
  obtain⟨⟨old,h1⟩,h2⟩:=st
  exact⟨⟨old,k e (by simp) _ h1⟩,iX h2 fun o q=>k it (by simp) o q⟩
 item:=by
  intro X hP hw hK hc i pins s σ H E I hf st hg
  subst hP hw hK
  obtain⟨xs,x,q1,hx⟩:=hg
  obtain⟨its,rv,p1,z1⟩:=I.list q1
  obtain⟨u,hu,ru⟩:=rv.get hx
  have off:∀ c∈[e,it],a≠c:=fun c hc=>oB I q1 (hf c hc)
  obtain⟨⟨old,h1⟩,h2⟩:=st
  have hh:X.A.in1.handled=none:=I.ok.hd hc
  have na:a≠it:=off it (by simp)
  have ne:e∉[it,a]:=fun q=>by
   simp only [List.mem_cons,List.not_mem_nil,or_false] at q
   rcases q with q | q
   ·exact hei q
   ·exact off e (by simp) q.symm
  have hi:i < its.toArray.size:=by have:=(List.getElem?_eq_some_iff.mp hu).1;simpa using this
  have el:e < s.heap.objs.size:=Heap.lt_size h1
  have il:it < s.heap.objs.size:=by obtain⟨o2,q2,_⟩:=h2;exact Heap.lt_size q2
  refine wpAny_pyNext_enum_itemD (Draws.list hh it a na its.toArray) h1 ⟨h2,p1.isList⟩ hi hei ne fun v h' tk hv eo st' tup hz hk=>⟨_,rfl,wpAny_letOwnedTupleGo_enum eo fun h'' e2 sb=>?_⟩
  have ev:v=u:=by
   have:its.toArray[i]?=some u:=by simpa using hu
   rw [this] at hv
   exact (Option.some.inj hv).symm
  subst ev
  have nt:s.heap.objs.size≠e:=Nat.ne_of_gt el
  have ni:s.heap.objs.size≠it:=Nat.ne_of_gt il
  have P:bf X.prog X.w (ax H s.heap.objs.size (.tup [.int i,x])) h'' s.heap.objs.size (.tup [.int i,x]):=
   ⟨by show 2≤sizeLine;decide,[.int i tk,v],.cons ⟨_,rfl⟩ (.cons ru .nil),⟨_,sb.extBut _ _ nt tup,rfl,_,rfl⟩⟩
  have I2:Inv X pins σ (ax H s.heap.objs.size (.tup [.int i,x])) { s with heap:=h'',toks:=tk+1 }:=ot I (fun c o' n q=>by
   have n1:c≠e:=fun r=>n (by simp [r])
   have n2:c≠it:=fun r=>n (by simp [r])
   exact sb.extBut _ _ n1 (hk c o' n1 n2 q)) hf (Nat.le_refl _) P
  refine⟨.ref s.heap.objs.size,_,I2,rfl,⟨_,x,I.fresh,rfl,rfl,fun ys hy=>by rw [I.list_inj hy q1];exact hx⟩,⟨⟨_,by simpa using e2⟩,iX st'.1 fun o q=>sb.extBut _ _ hei.symm q⟩,fun c hc=>?_⟩
  have lt:c < s.heap.objs.size:=by
   simp only [List.mem_cons,List.not_mem_nil,or_false] at hc
   rcases hc with rfl | rfl
   ·exact el
   ·exact il
  rw [aj (Nat.ne_of_lt lt)]
  exact (hf c hc).1
 done:=by
  intro X hP hw hK hc i pins s σ H E I hf st hg
  subst hP hw hK
  obtain⟨xs,q1,hx⟩:=hg
  obtain⟨its,rv,p1,z1⟩:=I.list q1
  have off:∀ c∈[e,it],a≠c:=fun c hc=>oB I q1 (hf c hc)
  obtain⟨⟨old,h1⟩,h2⟩:=st
  have hh:X.A.in1.handled=none:=I.ok.hd hc
  have hl:=rv.length
  have nn:its.toArray[i]?=none:=by rw [Array.getElem?_eq_none_iff];simp;omega
  have hT:s.TypeIs (.ref e) "enumerate" := ⟨_,h1,rfl⟩
  unfold pyNext
  refine wpAny_bind (wpAny_attempt (wpAny_callSpecial?_slot (name:=Str.ofString "__next__") hT F.slot_enumerate_next
   (wpAny_call_entry F.slot_enumerate_next hT F.entry_enumerate_next ?_ (F.args_enumerate_next_1 _))))
  show wpAny _ _ (field (.ref e) 2 >>= _) _ _ _
  refine wpAny_bind (wpAny_field h1 rfl (x:=.ref it) rfl ?_)
  refine wpAny_bind (wpAny_nextOf_list_end hh h2 p1.isList nn fun h' x he' hx'=>?_)
  obtain⟨o,ho,hcl⟩:=hx'
  refine wpAny_bind (wpAny_isInstance (T := "StopIteration") (b:=true) ⟨o,ho,hcl⟩ isSubtype_stop ?_)
  refine wpAny_pure ⟨rfl,?_⟩
  exact ou (t':=s.toks) I (fun c o' n q=>he' c o' (fun r=>n (by simp [r])) q) hf
 self:=fun A i s Q E st h=>by
  obtain⟨⟨old,h1⟩,_⟩:=st
  exact wpAny_pyIter_enum h1 h
def BR (K:PySem.W.Frag) (ta:TA):TI:=fun σ H R=>ta σ H fun vs H1=>∃ a,vs=[.ref a]/\(∃ xs,aF K H1 a xs)/\R (As K a) H1
theorem sV {X:Cx} {elts:List Expr} {x1} {tp p pos:Pos} {a:Expr} {ta:TA} (hg:Gl X "enumerate") (hm:X.mg "enumerate" = none) (ha:PA X [a] ta) (hs:starEach [a] X.env=[(false,eval a X.env)]:=by rfl) :
  PI X (.Tuple elts x1 tp) (.Call (.Name "enumerate" p) [a] [] pos) (BR X.K ta):=by
 intro pins s σ H R I h
 refine Call_ (gL I hg hm (show bootBuiltins "enumerate" = some (.type "enumerate") by kernel_rfl) (PyProof.Rows.callWith_type1 (bc (ha pos pins s σ H _ I h) fun us s1 ⟨vs,H1,I1,r1,q1⟩=>?_) hs rfl))
 obtain⟨a,e,⟨xs,hx⟩,q⟩:=q1
 subst e
 obtain⟨u,rfl,ru⟩:=r1.one
 cases ru
 obtain⟨its,_,p1,_⟩:=I1.list hx
 refine call_enumerate_list p1.isList fun h' he hi sz kk=>wpAny_pyIter_enum he ?_
 have I2:Inv X pins σ H1 { s1 with heap:=h' }:=I1.kept (t':=s1.toks) kk
 refine⟨_,[s1.heap.objs.size+1,s1.heap.objs.size],_,_,H1,rfl,I2,qA (a:=a) (Nat.succ_ne_self _),⟨⟨_,he⟩,hi⟩,fun c hc=>?_,q⟩
 have le:s1.heap.objs.size≤c:=by
  simp only [List.mem_cons,List.not_mem_nil,or_false] at hc
  rcases hc with h | h
  ·rw [h];exact Nat.le_succ _
  ·rw [h];exact Nat.le_refl _
 exact I1.fpOk le (I1.hok.fresh le)
section
variable {prog:Program} {w:World} {A:Around} {E:Value->Shared->Prop}
end
def Fk (K:PySem.W.Frag) (n:Nat) (t:qo):TG:=fun v σ H Q=>∃ a xs,v=.ref a/\aF K H a xs/\xs.length=n/\t xs σ H Q
section
variable {prog:Program} {w:World} {A:Around} {E:Value->Shared->Prop} {s:Shared}
open HT in
theorem lD {t sl:Addr} {items:Array Value} {vl vu:Value} {lo hi:Option Int} {Q:Value->Shared->Prop} (ht:IsTup s.heap t items) (hs:s.heap.IsSliceOf sl vl vu .none) (pl:IsPart vl lo) (pu:IsPart vu hi)
  (h1:sIx items.size 0 lo=0) (h2:sIx items.size items.size hi=items.size) (h:Q (.ref t) s):wpAny (model prog w) A (getItem (.ref t) (.ref sl)) Q E s:=by
 obtain⟨os,hos,hcs,hds⟩:=id hs
 have hTs:s.TypeIs (.ref sl) "slice" := ⟨os,hos,hcs⟩
 unfold getItem
 try with_reducible refine wpAny_holding ?_
 first | refine wpAny_bind (wpAny_pure ?_) | skip
 refine wpAny_bind (wpAny_sequenceKey ht.typeIs (by decide) ?_)
 refine wpAny_bind (wpAny_callSpecial?_slot (name:=Str.ofString "__getitem__") ht.typeIs PyProof.Rows.slot_tuple_getitem
  (wpAny_call_entry PyProof.Rows.slot_tuple_getitem ht.typeIs entry_tuple_getitem ?_ (args_tuple_getitem _ _)))
 show wpAny _ _ (Builtin.Tuple.tupleItemsOf (.ref t) >>= _) _ _ s
 refine wpAny_bind (tupleItemsOf_ ht ?_)
 refine wpAny_bind (wpAny_typeOf hTs ?_)
 rw [if_pos (by decide)]
 refine wpAny_bind (dU hs pl pu ?_)
 have hyes:((((sIx items.size 0 lo:Nat):Int) == 0 && (1:Int) == 1 && (sIx items.size items.size hi - sIx items.size 0 lo) == items.size)=true):=by
  rw [h1,h2];simp
 show wpAny _ _ (if (((sIx items.size 0 lo:Nat):Int) == 0 && (1:Int) == 1 && (sIx items.size items.size hi - sIx items.size 0 lo) == items.size)=true then _ else _) _ _ s
 rw [if_pos hyes]
 refine wpAny_bind ?_
 unfold Builtin.Tuple.tupleIsExact
 refine wpAny_bind (wpAny_typeOf ht.typeIs ?_)
 refine wpAny_pure ?_
 rw [if_pos (by decide)]
 exact wpAny_bind (wpAny_rule (wpAny_pure ⟨_,rfl,wpAny_pure h⟩))
end
def Be (K:PySem.W.Frag):V->Option Int->Option Int->Hp->VK->Prop:=fun x lo hi H Q=>∃ a xs,x=.ref a/\bS K H a xs/\HT.sIx xs.length 0 lo=0/\HT.sIx xs.length xs.length hi=xs.length/\Q (.ref a) H
theorem u3 {X:Cx}:qx X (Be X.K):=by
 intro pins s σ H x v vl vu lo hi sl Q I rx hs pl pu h
 obtain⟨a,xs,rfl,hx,h1,h2,q⟩:=h
 cases rx
 obtain⟨its,r,ht,hz⟩:=I.tuple hx
 have hlen:its.toArray.size=xs.length:=by rw [List.size_toArray];exact r.length.symm
 refine⟨"tuple", _,PyProof.Rows.slot_tuple_getitem.lookup,ht.typeIs,?_⟩
 exact lD ht hs pl pu (by rw [hlen];exact h1) (by rw [hlen];exact h2) ⟨.ref a,H,I,rfl,q⟩
theorem u5 {X:Cx}:qx X (fun x lo hi H Q=>Be X.K x lo hi H Q∨Bf X.K x lo hi H Q):=qx.or u3 qS
end B
namespace B
theorem zK {a b c d:Int} (hb:0 < b) (hd:0 < d) (e:a * d=c * b):cX a b=cX c d:=by
 have hr:=iw (a:=c) hd
 have hc:=jM (a:=c) hd
 generalize cX c d=m at hr hc ⊢
 refine dk hb hr.pos hr.cop ?_
 refine Int.eq_of_mul_eq_mul_right (show d≠0 by omega) ?_
 have e1:m.1 * b * d=m.1 * d * b:=by ac_rfl
 have e2:a * m.2 * d=a * d * m.2:=by ac_rfl
 rw [e1,hc,e2,e]
 ac_rfl
structure Bq (D N:Nat) (r:R):Prop where
 pos:0 < r.2
 cop:Int.gcd r.1 r.2=1
 dvd:r.2∣(D:Int)
 le:r.1.natAbs≤N * r.2.natAbs
theorem Bq.red {D N:Nat} {r:R} (h:Bq D N r):eQ r:=⟨h.pos,h.cop⟩
theorem oZ {D N:Nat} {a b:Int} (hb:0 < b) (hd:b∣(D:Int)) (hl:a.natAbs≤N * b.natAbs):Bq D N (cX a b):=by
 obtain⟨g,x,y,e0,gp,e1,e2,c⟩:=di (a:=a) hb
 have yp:=fW hb gp e2
 have e:cX a b=(x,y):=by
  unfold cX
  rw [e0,show a / g=x by rw [e1];exact Int.mul_ediv_cancel_left _ (by omega),show b / g=y by rw [e2];exact Int.mul_ediv_cancel_left _ (by omega)]
 rw [e]
 refine⟨yp,c,Int.dvd_trans ⟨g,by rw [e2,Int.mul_comm]⟩ hd,?_⟩
 rw [e1,e2,Int.natAbs_mul,Int.natAbs_mul] at hl
 have gn:0 < g.natAbs:=by omega
 refine Nat.le_of_mul_le_mul_left (c:=g.natAbs) ?_ gn
 show g.natAbs * x.natAbs≤g.natAbs * (N * y.natAbs)
 rw [Nat.mul_left_comm]
 exact hl
theorem Bq.mono {D N D' N':Nat} {r:R} (h:Bq D N r) (hd:D∣D') (hn:N≤N'):Bq D' N' r:=
 ⟨h.pos,h.cop,Int.dvd_trans h.dvd (Int.ofNat_dvd.mpr hd),Nat.le_trans h.le (Nat.mul_le_mul_right _ hn)⟩
theorem Bq.plus {D N M:Nat} {r q:R} (hD:0 < D) (h:Bq D N r) (k:Bq D M q):Bq D (N+M) (bU r q):=by
 obtain⟨y,ey⟩:=h.dvd
 obtain⟨v,ev⟩:=k.dvd
 have dp:(0:Int) < (D:Int):=by omega
 have e:bU r q=cX (r.1 * y+q.1 * v) (D:Int):=by
  unfold bU
  refine zK (Int.mul_pos h.pos k.pos) dp ?_
  rw [Int.add_mul,Int.add_mul]
  have a1:r.1 * q.2 * (D:Int)=r.1 * y * (r.2 * q.2):=by rw [ey];ac_rfl
  have a2:q.1 * r.2 * (D:Int)=q.1 * v * (r.2 * q.2):=by rw [ev];ac_rfl
  rw [a1,a2]
 rw [e]
 refine oZ dp (Int.dvd_refl _) ?_
 have b1:(r.1 * y).natAbs≤N * D:=by
  have:(D:Int).natAbs=r.2.natAbs * y.natAbs:=by rw [ey,Int.natAbs_mul]
  rw [Int.natAbs_mul]
  have z:=Nat.mul_le_mul_right y.natAbs h.le
  rw [Nat.mul_assoc,← this] at z
  simpa using z
 have b2:(q.1 * v).natAbs≤M * D:=by
  have:(D:Int).natAbs=q.2.natAbs * v.natAbs:=by rw [ev,Int.natAbs_mul]
  rw [Int.natAbs_mul]
  have z:=Nat.mul_le_mul_right v.natAbs k.le
  rw [Nat.mul_assoc,← this] at z
  simpa using z
 have b3:=Int.natAbs_add_le (r.1 * y) (q.1 * v)
 have b4:(D:Int).natAbs=D:=Int.natAbs_natCast D
 rw [b4,Nat.add_mul]
 omega
theorem Bq.times {D N E M:Nat} {r q:R} (h:Bq D N r) (k:Bq E M q):Bq (D * E) (N * M) (bA r q):=by
 refine oZ (Int.mul_pos h.pos k.pos) ?_ ?_
 ·rw [Int.natCast_mul];exact Int.mul_dvd_mul h.dvd k.dvd
 ·rw [Int.natAbs_mul,Int.natAbs_mul]
  have z:=Nat.mul_le_mul h.le k.le
  calc r.1.natAbs * q.1.natAbs≤N * r.2.natAbs * (M * q.2.natAbs):=z
   _=N * M * (r.2.natAbs * q.2.natAbs):=by ac_rfl
theorem vZ {a b:Int} (ha:0 < a) (hb:0 < b):0 < (cX a b).1:=Int.ediv_pos_of_pos_of_dvd ha (Int.le_of_lt (bo hb)) (Int.gcd_dvd_left a b)
theorem Bq.bot {D N:Nat} {r:R} (hD:0 < D) (h:Bq D N r):r.2.natAbs≤D:=by
 have:=Int.natAbs_dvd_natAbs.mpr h.dvd
 rw [Int.natAbs_natCast] at this
 exact Nat.le_of_dvd hD this
theorem Bq.wf {D N n:Nat} {r:R} (h:Bq D N r) (hD:0 < D) (h1:D < 2 ^ n) (h2:N * D < 2 ^ n):Wf n r:=
 ⟨h.pos,Nat.lt_of_le_of_lt (Nat.le_trans h.le (Nat.mul_le_mul_left _ (h.bot hD))) h2,Nat.lt_of_le_of_lt (h.bot hD) h1,h.cop⟩
end B
namespace B
open PySem PySem.Spec L2 PyProof.Rows
inductive Rl where
 | pow (k:Int)
 | tab (rows:List (R×R))
def m6:R×R:=((0,1),(0,1))
def xQ (lo hi:R×R):R:=BB (tP hi.2 lo.2) (tP hi.1 lo.1)
def Cs (rows:List (R×R)) (k:Nat):R:=xQ (rows.getD k m6) (rows.getD (k+1) m6)
def Bz (rows:List (R×R)) (s:R):Nat:=rows.countP fun r=>iZ r.1 s
def Bl (rows:List (R×R)) (s:R):Nat:=rows.countP fun r=>!iZ s r.1
def BN (rows:List (R×R)) (s:R):R:=if Bz rows s=0 then (0,1) else Cs rows (Bz rows s - 1)
def yr (rows:List (R×R)) (s:R):Option R:=if Bl rows s < rows.length then some (Cs rows (Bl rows s - 1)) else none
def Bs (k:Int) (s:R):R:=bA (k,1) (Bt s (k - 1).toNat)
def Ct:Rl->R->R×Option R
 | .pow k,s=>(Bs k s,some (Bs k s))
 | .tab rows,s=>(BN rows s,yr rows s)
def Fy (rows:List (R×R)):Prop:=rows.Pairwise fun a b=>iZ a.1 b.1=true
def FH (rows:List (R×R)):Prop:=∀ r∈rows,0 < r.1.2
abbrev D0:Nat:=5822723907000000000
abbrev N0:Nat:=1000000007
abbrev N1:Nat:=17179869184
abbrev NR:Nat:=11000000077
abbrev N2:Nat:=1180591620717411303424
structure An (rows:List (R×R)):Prop where
 n2:2≤rows.length
 n12:rows.length≤12
 inc:Fy rows
 zero:∃ y,rows[0]?=some ((0,1),y)
 sp:∀ r∈rows,Bq D0 NR r.1
 pw:∀ r∈rows,Bq (D0 * D0) N2 r.2
def Fs:Rl->Prop
 | .pow k=>2≤k/\k≤4
 | .tab rows=>An rows
structure Fq (s:R):Prop where
 bq:Bq (D0 * 2) N1 s
 nn:0≤s.1
def EG:Rl->R->Prop
 | .pow _,_=>True
 | .tab rows,s=>∃ r,rows[rows.length - 1]?=some r/\iZ r.1 s=false
def FR (rows:List (R×R)) (s:R) (i:Nat):R:=if 0 < Bz rows s/\Bz rows s - 1 < i then Cs rows (Bz rows s - 1) else (0,1)
def FQ (rows:List (R×R)) (s:R) (i:Nat):Option R:=if 0 < Bl rows s/\Bl rows s - 1 < i then some (Cs rows (Bl rows s - 1)) else none
def Ed (k:Int) (s:R) (j:Nat):R:=cX (k * s.1 ^ j) (s.2 ^ j)
def Ep (l:R) (r:Option R) (g:R):Bool:=!iZ g l && (match r with | none=>true | some x=>!iZ x g)
end B
namespace B
def val (r:R):Rat:=(r.1:Rat) / (r.2:Rat)
theorem cH {b:Int} (h:0 < b):(b:Rat)≠0:=fun z=>by
 have:b=0:=Rat.intCast_inj.mp (by rw [z];rfl)
 omega
theorem xH {r:R} {a b:Int} (hr:0 < r.2) (hb:(b:Rat)≠0) (h:r.1 * b=a * r.2):val r=(a:Rat) / (b:Rat):=by
 have h2:(r.1:Rat) * (b:Rat)=(a:Rat) * (r.2:Rat):=by rw [← Rat.intCast_mul,← Rat.intCast_mul,h]
 have h1:=cH hr
 unfold val
 generalize (r.1:Rat)=x at *
 generalize (r.2:Rat)=y at *
 generalize (a:Rat)=u at *
 generalize (b:Rat)=v at *
 grind
theorem j5 {a b:Int} (hb:0 < b):val (cX a b)=(a:Rat) / (b:Rat):=xH (iw hb).pos (cH hb) (jM hb)
theorem f6 {r q:R} (hr:0 < r.2) (hq:0 < q.2):val (bU r q)=val r+val q:=by
 unfold bU
 rw [j5 (Int.mul_pos hr hq)]
 have h1:=cH hr
 have h2:=cH hq
 unfold val
 rw [Rat.intCast_add,Rat.intCast_mul,Rat.intCast_mul,Rat.intCast_mul]
 generalize (r.1:Rat)=x at *
 generalize (r.2:Rat)=y at *
 generalize (q.1:Rat)=u at *
 generalize (q.2:Rat)=v at *
 grind
theorem jB {r q:R} (hr:0 < r.2) (hq:0 < q.2):val (bA r q)=val r * val q:=by
 unfold bA
 rw [j5 (Int.mul_pos hr hq)]
 have h1:=cH hr
 have h2:=cH hq
 unfold val
 rw [Rat.intCast_mul,Rat.intCast_mul]
 generalize (r.1:Rat)=x at *
 generalize (r.2:Rat)=y at *
 generalize (q.1:Rat)=u at *
 generalize (q.2:Rat)=v at *
 grind
theorem j6 {r q:R} (hr:eQ r) (hq:eQ q) (h:val r=val q):r=q:=by
 have h1:=cH hr.pos
 have h2:=cH hq.pos
 have e:r.1 * q.2=q.1 * r.2:=by
  refine Rat.intCast_inj.mp ?_
  rw [Rat.intCast_mul,Rat.intCast_mul]
  unfold val at h
  generalize (r.1:Rat)=x at *
  generalize (r.2:Rat)=y at *
  generalize (q.1:Rat)=u at *
  generalize (q.2:Rat)=v at *
  grind
 have e1:cX r.1 r.2=(r.1,r.2):=dk hr.pos hr.pos hr.cop rfl
 have e2:cX r.1 r.2=(q.1,q.2):=dk hr.pos hq.pos hq.cop e.symm
 exact e1.symm.trans e2
theorem lB {r:R} (hr:0 < r.2):val r=0↔r.1=0:=by
 have h1:=cH hr
 unfold val
 constructor
 ·intro h
  refine Rat.intCast_inj.mp ?_
  show (r.1:Rat)=((0:Int):Rat)
  rw [show ((0:Int):Rat)=0 from rfl]
  generalize (r.1:Rat)=x at *
  generalize (r.2:Rat)=y at *
  grind
 ·intro h
  rw [h]
  show ((0:Int):Rat) / _=0
  rw [show ((0:Int):Rat)=0 from rfl]
  generalize (r.2:Rat)=y at *
  grind
end B
namespace B
def FO (rows:List (R×R)) (i:Nat):Rat:=(val (rows.getD (i+1) m6).2 - val (rows.getD i m6).2) / (val (rows.getD (i+1) m6).1 - val (rows.getD i m6).1)
section
variable {s p:Nat->Rat} {n:Nat}
def sl (s p:Nat->Rat) (i:Nat):Rat:=(p (i+1) - p i) / (s (i+1) - s i)
end
end B
namespace B
open PySem PySem.Spec L2 PyProof.Rows
structure QE (X:Cx) (e:Expr) (t:TE):Prop where
 p:PE X e t
structure QT (X:Cx) (e:Expr) (t:TT):Prop where
 p:PT X e t
structure QW (X:Cx) (e:Expr) (t:TT):Prop where
 p:PW X e t
structure QA (X:Cx) (es:List Expr) (t:TA):Prop where
 p:PA X es t
structure QS (X:Cx) (st:Stmt) (t:TS):Prop where
 p:PS X st t
structure df (X:Cx) (st:List Stmt) (t:TS):Prop where
 p:oa X st t
structure QI (X:Cx) (tg iter:Expr) (wi:TI):Prop where
 p:PI X tg iter wi
structure QG (X:Cx) (target:Expr) (t:TG):Prop where
 p:PG X target t
structure Cd (X:Cx) (ts:List Expr) (t:qo):Prop where
 p:AD X ts t
theorem df.ok {X:Cx} {b:List Stmt} {t:TS} {D:im} {σ:L2.St} {H:Hp} (h:df X b t) (r:t D σ H):∃ t:TS,oa X b t/\t D σ H:=⟨t,h.p,r⟩
structure QO (X:Cx) (o:Option Expr) (t:L2.TO):Prop where
 p:PO X o t
section
set_option autoImplicit true
set_option relaxedAutoImplicit true
theorem qv  (i:Nat) {x:Str} {pos:Pos} (hN:X.N[i]?=some x:=by rfl) (hv:B9 X.env.scope x:=by first | exact Or.inl rfl | exact Or.inr (Or.inl rfl) | exact Or.inr (Or.inr rfl)) (hd:(x == ("__debug__" : Str))=false:=by decide) (hcd:(x == ("__classdict__" : Str))=false:=by decide):QE X (.Name x pos) (xL i):=⟨pv i hN hv hd hcd⟩
theorem ah  {i j pos}:QE X (.Constant (.int i) j pos) (tC (.int i)):=⟨yW ⟩
theorem oG  {b j pos}:QE X (.Constant (.bool b) j pos) (tC (.bl b)):=⟨By ⟩
theorem ss  {j pos}:QE X (.Constant .none j pos) (tC .non):=⟨yU ⟩
theorem ir  {x:Str} {v:V} {u:Value} {pos:Pos} (hg:Gl X x) (hm:X.mg x=some u) (r:aO v u) (hd:(x == ("__debug__" : Str))=false:=by decide):QE X (.Name x pos) (tC v):=⟨vN hg hm r hd⟩
theorem lQ  {op:UnaryOp} {r:V->Hp->VK->Prop} (ho:CG X (unaryOp op) r) (ha:QE X a ta):QE X (.UnaryOp op a pos) (DH r ta):=⟨Bu ho ha.p⟩
theorem aA  {op:Operator} {r:R2} (ho:eI X (binaryOp op) r) (ha:QE X a ta) (hb:QE X b tb):QE X (.BinOp a op b pos) (uT r ta tb):=⟨Bv ho ha.p hb.p⟩
theorem vg  {op:CmpOp} {r:R2} (ho:eI X (compareOp op) r) (ha:QE X a ta) (hb:QE X b tb) (hm:behindInMarks op b=false):QE X (.Compare a [op] [b] pos) (uT r ta tb):=⟨vP ho ha.p hb.p hm⟩
theorem sx  {op op':CmpOp} {r r':R2} (ho:eI X (compareOp op) r) (ho':eI X (compareOp op') r') (ha:QE X a ta) (hb:QE X b tb) (hc:QE X c tc) (hm:lastMarks [op,op'] [b,c]=false:=by with_unfolding_all rfl):QE X (.Compare a [op,op'] [b,c] pos) (j9 r r' ta tb tc):=⟨tw ho ho' ha.p hb.p hc.p hm⟩
theorem bP  (h:QA X es t):QE X (.List es pos) (AW t):=⟨yV h.p⟩
theorem cF  {x1} (h:QA X es t):QE X (.Tuple es x1 pos) (AS t):=⟨yT h.p⟩
theorem eW {lo hi:Option Expr} {r:V->Option Int->Option Int->Hp->VK->Prop} (hr:qx X r) (he:QE X e te) (hl:QO X lo tl) (hu:QO X hi th):QE X (.Subscript e (.Slice lo hi none p2) pos) (DJ r te tl th):=⟨sY hr he.p hl.p hu.p⟩
theorem gs   : QO X none ow:=⟨vB ⟩
theorem gm  (h:QE X e te):QO X (some e) (wP te):=⟨vA h.p⟩
theorem bu  {r:R2} (hr:Ar X r) (ha:QE X a ta) (hb:QE X b tb) (hs:k9 b):QE X (.Subscript a b pos) (uT r ta tb):=⟨Bw hr ha.p hb.p hs⟩
theorem iu  (F:bh X.prog X.w X.K X.mg X.base CX k f fd ps sp) (hr:cr k X.A) (hg:Gl X x) (hm:X.mg x=some (.ref f)) (hk:PySem.W.keepIn X.K (.ref f)=true) (hb:aM X.K fd ps ds) (hd:aR dvs ds) (hx:dn CX X E) (ha:QA X (e :: es) t) (hdb:(x == ("__debug__" : Str))=false:=by decide) (he:starEach (e :: es) X.env=(false,eval e X.env) :: starEach es X.env:=by rfl) (hpl:(backTo pos (starEach es X.env)).any (·.1)=false:=by rfl):QE X (.Call (.Name x p) (e :: es) [] pos) (qI sp dvs E t):=⟨vQ F hr hg hm hk hb hd hx ha.p hdb he hpl⟩
theorem aD {id:String} (hc:cB X (.builtin id) r) (hg:Gl X x) (hm:X.mg x=none) (hv:bootBuiltins x=some (.builtin id)) (ha:QA X (e :: es) t) (hn:x ≠ "__name__" := by decide) (hdb:(x == ("__debug__" : Str))=false:=by decide) (he:starEach (e :: es) X.env=(false,eval e X.env) :: starEach es X.env:=by rfl) (hpl:(backTo pos (starEach es X.env)).any (·.1)=false:=by rfl):QE X (.Call (.Name x p) (e :: es) [] pos) (Cn r t):=⟨tz hc hg hm hv ha.p hn hdb he hpl⟩
theorem cO  (hc:cB X (.type T) r) (hg:Gl X x) (hm:X.mg x=none) (hv:bootBuiltins x=some (.type T)) (ha:QA X (e :: es) t) (hn:x ≠ "__name__" := by decide) (hdb:(x == ("__debug__" : Str))=false:=by decide) (he:starEach (e :: es) X.env=(false,eval e X.env) :: starEach es X.env:=by rfl) (hpl:(backTo pos (starEach es X.env)).any (·.1)=false:=by rfl):QE X (.Call (.Name x p) (e :: es) [] pos) (Cn r t):=⟨pV hc hg hm hv ha.p hn hdb he hpl⟩
theorem iS {id:String} (pa:PlainAttrs T) (slot:Slot T name id) (hty:typeOf (.builtin id)=pure (.type "method_descriptor")) (hm:EB X id r) (ho:QE X o to) (ha:QA X (e :: es) t) (hbase:attributeBase o name X.env (eval o X.env)=eval o X.env:=by rfl) (hfew:((backTo cpos (starEach (e :: es) X.env)).all (fun x=>!x.1) && (backToKw cpos (keywordEach [] X.env)).all (fun x=>x.1.isSome)
   && decide ((e :: es).length+([]:List Keyword).length+(if ([]:List Keyword).isEmpty then 0 else 1) < 30))=true:=by rfl) (hline:(apos.endLine == cpos.line)=true:=by rfl) (hs:starEach (e :: es) X.env=(false,eval e X.env) :: starEach es X.env:=by rfl) (hplain:(backTo cpos (starEach es X.env)).any (·.1)=false:=by rfl):QE X (.Call (.Attribute o name apos) (e :: es) [] cpos) (DS X.K T r to t):=⟨Bx pa slot hty hm ho.p ha.p hbase hfew hline hs hplain⟩
theorem af   : QA X [] uU:=⟨yZ ⟩
theorem aa  (ha:QE X e te) (hr:QA X es t) (hs:starEach (e :: es) X.env=(false,eval e X.env) :: starEach es X.env:=by rfl):QA X (e :: es) (wV te t):=⟨vR ha.p hr.p hs⟩
theorem aN  {op:CmpOp} {r:R2} (ho:eI X (compareOp op) r) (ha:QE X a ta) (hb:QE X b tb) (hm:behindInMarks op b=false):QT X (.Compare a [op] [b] pos) (jD (uT r ta tb)):=⟨vn ho ha.p hb.p hm⟩
theorem sg  {op op':CmpOp} {r r':R2} (ho:eI X (compareOp op) r) (ho':eI X (compareOp op') r') (ha:QE X a ta) (hb:QE X b tb) (hc:QE X c tc) (hm:lastMarks [op,op'] [b,c]=false:=by with_unfolding_all rfl):QT X (.Compare a [op,op'] [b,c] pos) (jD (j9 r r' ta tb tc)):=⟨sK ho ho' ha.p hb.p hc.p hm⟩
theorem ku  {e:Expr} {t:TE} (h:QE X e t) (he:∀ whole,isTrue e X.env whole=(do let v ← whole;standAt e.pos;holding [v] (truthy v)):=by intro _;rfl):QT X e (tB t):=⟨yG h.p he⟩
theorem yy  (ha:QT X a tA):QT X (.UnaryOp .Not a pos) (AV tA):=⟨yH ha.p⟩
theorem sf {rest:List Expr} (ha:QT X a tA) (hb:QW X (.BoolOp .And (b :: rest) pos) tB'):QW X (.BoolOp .And (a :: b :: rest) pos) (A1 tA tB'):=⟨yF ha.p hb.p⟩
theorem oE  (ha:QT X a tA):QW X (.BoolOp .And [a] pos) tA:=⟨vh ha.p⟩
theorem Bk {rest:List Expr} (ha:QT X a tA) (hb:QW X (.BoolOp .Or (b :: rest) pos) tB'):QW X (.BoolOp .Or (a :: b :: rest) pos) (DM tA tB'):=⟨Bm ha.p hb.p⟩
theorem yx  (ha:QT X a tA):QW X (.BoolOp .Or [a] pos) tA:=⟨yE ha.p⟩
theorem se  {X:Cx} {e:Expr} {t:TT} (h:QW X e t):QT X e t:=⟨PW.pt h.p⟩
theorem yA  {i:Nat} {x:Str} {e:Expr} {te:TE} {pos':Pos} (hN:X.N.Nodup) (hi:X.N[i]?=some x) (hx:uL X.env.scope x) (he:QE X e te) (hs:swapsWith e (some (.Name x pos')) pos.line X.env=pure false:=by rfl) (hf:X.fn x=true∨X.env.scope.names.lookup x=some .local:=by first | exact .inl rfl | exact .inr rfl | assumption):QS X (.Assign [.Name x pos'] e pos) (mR te (i9 i)):=⟨yI hN hi hx he.p hs hf⟩
theorem sj  {i j:Nat} {x y:Str} {a b:Expr} {ta:TA} {px py pt:Pos} {kt k2 pt2} (hc:X.calm=true) (hN:X.N.Nodup) (hi:X.N[i]?=some x) (hj:X.N[j]?=some y) (hij:i≠j) (hx:X.env.scope.names.lookup x=some .local) (hy:X.env.scope.names.lookup y=some .local) (ha:QA X [a,b] ta) (hw:swappedStores [.Tuple [.Name x px,.Name y py] kt pt] (.Tuple [a,b] k2 pt2) X.env=pure (some [x,y])) (hs:swapsWithSole [.Tuple [.Name x px,.Name y py] kt pt] (.Tuple [a,b] k2 pt2) pos.line X.env=pure false:=by rfl):QS X (.Assign [.Tuple [.Name x px,.Name y py] kt pt] (.Tuple [a,b] k2 pt2) pos) (AU i j ta):=⟨yK hc hN hi hj hij hx hy ha.p hw hs⟩
theorem nh  {tg e:Expr} {te:TE} {g:TG} (he:QE X e te) (hg:QG X tg g) (hs:swapsWithSole [tg] e pos.line X.env=pure false:=by rfl) (hw:swappedStores [tg] e X.env=pure none:=by rfl) (h1:(assignEach [tg] X.env).map (·.2)=[assign tg X.env]:=by rfl):QS X (.Assign [tg] e pos) (mR te g):=⟨yO he.p hg.p hs hw h1⟩
theorem yB  {i:Nat} {x:Str} {e:Expr} {te:TE} {op:Operator} {ti:xx} {pos':Pos} (hN:X.N.Nodup) (hi:X.N[i]?=some x) (hx:uL X.env.scope x) (he:QE X e te) (ho:AC X op ti) (hf:X.fn x=true∨X.env.scope.names.lookup x=some .local:=by first | exact .inl rfl | exact .inr rfl | assumption):QS X (.AugAssign (.Name x pos') op e pos) (A0 i te ti):=⟨yN hN hi hx he.p ho hf⟩
theorem cE  {c:Expr} {a b:List Stmt} {tc:TT} (hc:QT X c tc) (ha:df X a t) (hb:df X b u):QS X (.If c a b pos) (AX tc t u):=⟨Bp hc.p ha.p hb.p⟩
theorem cV  {c:Expr} {body:List Stmt} {tc:TT} {tb:TS} (hp:PassesOwn (model X.prog X.w) X.A X.env X.xe) (hc:QT X c tc) (hb:df X body tb):QS X (.While c body [] pos) (qD tc tb):=⟨sO hp hc.p hb.p⟩
theorem cf  {iter:Expr} {body:List Stmt} {wi:TI} {g:TG} {tb:TS} {pos:Pos} (hp:PassesOwn (model X.prog X.w) X.A X.env X.xe) (hc:X.calm=true) (hi:QI X tg iter wi) (hg:QG X tg g) (hb:df X body tb) (hs:∀ x,foldedSetIterable iter X.env x=pure x:=by intro _;rfl):QS X (.For tg iter body [] pos) (AY wi g tb):=⟨yL hp hc hi.p hg.p hb.p hs⟩
theorem aT  (he:QE X e te):QS X (.Return (some e) pos) (AT te):=⟨yJ he.p⟩
theorem da  (he:QE X e te) (hs:swapsWith e none pos.line X.env=pure false:=by rfl):QS X (.Expr e pos) (wT te):=⟨vx he.p hs⟩
theorem lP {st:Stmt}  : QS X st qE:=⟨sP ⟩
theorem bK   : df X [] wQ:=⟨vq ⟩
theorem ak {st:Stmt} (h1:QS X st t):df X [st] t:=⟨vo h1.p⟩
theorem si {st:Stmt} {rest:List Stmt} (h1:QS X st t) (h2:df X rest u):df X (st :: rest) (xM t u):=⟨sN h1.p h2.p⟩
theorem bx  {a:Expr} {ta:TA} {p pos:Pos} (hg:Gl X "range") (hm:X.mg "range" = none) (ha:QA X [a] ta) (hs:starEach [a] X.env=[(false,eval a X.env)]:=by rfl):QI X tg (.Call (.Name "range" p) [a] [] pos) (xp ta):=⟨pS hg hm ha.p hs⟩
theorem pK  {a b:Expr} {ta:TA} {p pos:Pos} (hg:Gl X "range") (hm:X.mg "range" = none) (ha:QA X [a,b] ta) (hs:starEach [a,b] X.env=[(false,eval a X.env),(false,eval b X.env)]:=by rfl) (hs2:starEach [b] X.env=[(false,eval b X.env)]:=by rfl):QI X tg (.Call (.Name "range" p) [a,b] [] pos) (xo ta):=⟨pR hg hm ha.p hs hs2⟩
theorem aX {tg:Expr} {l:Expr} {tl:TE} (hl:QE X l tl):QI X tg l (ua X.K tl):=⟨vD hl.p⟩
theorem aB  {i:Nat} {x:Str} (hN:X.N.Nodup) (hi:X.N[i]?=some x) (hx:uL X.env.scope x) (hf:X.fn x=true∨X.env.scope.names.lookup x=some .local:=by first | exact .inl rfl | exact .inr rfl | assumption):QG X (.Name x pos) (i9 i):=⟨vH hN hi hx hf⟩
theorem nj  {es:List Expr} {k:Nat} {t:qo} {n:Nat} (hc:X.calm=true) (h:Cd X es t) (hn:(assignEach es X.env).length=n:=by rfl) (hst:(assignEach es X.env).findIdx? (·.1)=none:=by rfl):QG X (.Tuple es k pos) (wj X.K n t):=⟨sX hc h.p hn hst⟩
theorem yD  {o i:Expr} {to ti:TE} {t:nY} (ho:QE X o to) (hi:QE X i ti) (hs:uK X t) (ha:∀ v,assign (.Subscript o i pos) X.env v=(do
   let ov ← holding [v] (eval o X.env)
   let iv ← holding [v,ov] (eval i X.env)
   standAt pos
   holding [v,ov,iv] (setItem ov iv v)
   release [v,ov,iv] []):=by intro _;rfl):QG X (.Subscript o i pos) (BX to ti t):=⟨yR ho.p hi.p hs ha⟩
theorem fm   : Cd X [] BY:=⟨vF ⟩
theorem b8  {e:Expr} {es:List Expr} {t:TG} {u:qo} (h1:QG X e t) (h2:Cd X es u) (hs:(assignEach (e :: es) X.env).map (·.2)=assign e X.env :: (assignEach es X.env).map (·.2):=by rfl):Cd X (e :: es) (xt t u):=⟨sW h1.p h2.p hs⟩
end
structure AB (X:Cx) (ifs:List Expr) (t:TT):Prop where
 p:xA X ifs t
section
set_option autoImplicit true
set_option relaxedAutoImplicit true
theorem bJ  {X:Cx}:AB X [] AR:=⟨vm ⟩
theorem cD  {X:Cx} {c:Expr} {t:TT} (h:QT X c t):AB X [c] t:=⟨vi h.p⟩
theorem aU  (hc:X.calm=true) (hi:QI X tg iter wi) (hg:∀ C fp pins s H,QG (gP X N' scope cl C fp pins s H) tg g) (ht:∀ C fp pins s H,AB (gP X N' scope cl C fp pins s H) ifs tt) (he:∀ C fp pins s H,QE (gP X N' scope cl C fp pins s H) elt te) (hfree:bQ X scope cl N' src) (hclos:closureFor scope X.env=pure cl) (hcell:∀ x∈scope.names,x.2≠.cell) (hkind:scope.kind=.function) (hnames:∀ x∈scope.names,x.2=.local->scope.names.lookup x.1=some .local) (hcl:dh X scope cl) (hs:∀ x,foldedSetIterable iter X.env x=pure x:=by intro _;rfl):QE X (.ListComp elt [⟨tg,iter,ifs,0⟩] scope pos) (f9 wi src g tt te):=⟨tf hc hi.p (fun z0 z1 z2 z3 z4=>(hg z0 z1 z2 z3 z4).p) (fun z0 z1 z2 z3 z4=>(ht z0 z1 z2 z3 z4).p) (fun z0 z1 z2 z3 z4=>(he z0 z1 z2 z3 z4).p) hfree hclos hcell hkind hnames hcl hs⟩
theorem gj  {i:Nat} {x:Str} {pos' pos2:Pos} (hN:X.N.Nodup) (hi':X.N[i]?=some x) (hx:uL X.env.scope x) (hc:X.calm=true) (hi:QI X tg iter wi) (hg:∀ C fp pins s H,QG (gP X N' scope cl C fp pins s H) tg g) (ht:∀ C fp pins s H,AB (gP X N' scope cl C fp pins s H) ifs tt) (he:∀ C fp pins s H,QE (gP X N' scope cl C fp pins s H) elt te) (hfree:bQ X scope cl N' src) (hclos:closureFor scope X.env=pure cl) (hcell:∀ x∈scope.names,x.2≠.cell) (hkind:scope.kind=.function) (hnames:∀ x∈scope.names,x.2=.local->scope.names.lookup x.1=some .local) (hcl:dh X scope cl) (hs:∀ x,foldedSetIterable iter X.env x=pure x:=by intro _;rfl) (hsw:swapsWith (.ListComp elt [⟨tg,iter,ifs,0⟩] scope pos) (some (.Name x pos')) pos2.line X.env=pure true:=by rfl) (hf:X.fn x=true∨X.env.scope.names.lookup x=some .local:=by first | exact .inl rfl | exact .inr rfl | assumption):QS X (.Assign [.Name x pos'] (.ListComp elt [⟨tg,iter,ifs,0⟩] scope pos) pos2) (mR (f9 wi src g tt te) (i9 i)):=⟨vw hN hi' hx hc hi.p (fun z0 z1 z2 z3 z4=>(hg z0 z1 z2 z3 z4).p) (fun z0 z1 z2 z3 z4=>(ht z0 z1 z2 z3 z4).p) (fun z0 z1 z2 z3 z4=>(he z0 z1 z2 z3 z4).p) hfree hclos hcell hkind hnames hcl hs hsw hf⟩
end
section
variable {X:Cx} {K:PySem.W.Frag}
theorem vG {es:List Expr} {k:Nat} {t:qo} {n:Nat} {pos:Pos} (hK:X.K=K) (hc:X.calm=true) (h:AD X es t)
  (hn:(assignEach es X.env).length=n:=by rfl) (hst:(assignEach es X.env).findIdx? (·.1)=none:=by rfl):PG X (.Tuple es k pos) (wj K n t):=hK ▸ sX hc h hn hst
theorem cm (hK:X.K=K):Ar X (yu K):=hK ▸ aH
theorem bV (hK:X.K=K):Ar X (yw K):=hK ▸ aL
def C2 (K:PySem.W.Frag):List V->Hp->VK->Prop:=fun xs H Q=>∃ p ys,xs=[.ref p]/\(aF K H p ys∨bS K H p ys)/\Q (.int ys.length) H
theorem qi (hK:X.K=K):cB X (.builtin "len") (C2 K):=hK ▸ aC
end
theorem aP {a b:Expr} {op:Operator} {pos:Pos} {es:List Expr} {env:Env}:starEach (.BinOp a op b pos :: es) env=(false,eval (.BinOp a op b pos) env) :: starEach es env:=rfl
end B
namespace B
open PySem
section
variable {es:List Expr} {env:Env}
theorem gc {a b c}:starEach (.Tuple a b c :: es) env=(false,eval (.Tuple a b c) env) :: starEach es env:=rfl
theorem lF {a b}:starEach (.List a b :: es) env=(false,eval (.List a b) env) :: starEach es env:=rfl
theorem aS {a b c}:starEach (.Subscript a b c :: es) env=(false,eval (.Subscript a b c) env) :: starEach es env:=rfl
theorem aG {a b c d}:starEach (.Call a b c d :: es) env=(false,eval (.Call a b c d) env) :: starEach es env:=rfl
theorem ad {a b}:starEach (.Name a b :: es) env=(false,eval (.Name a b) env) :: starEach es env:=rfl
theorem aK {a b c}:starEach (.Constant a b c :: es) env=(false,eval (.Constant a b c) env) :: starEach es env:=rfl
theorem dP {a b c}:starEach (.Attribute a b c :: es) env=(false,eval (.Attribute a b c) env) :: starEach es env:=rfl
theorem c8 {a b c d}:starEach (.ListComp a b c d :: es) env=(false,eval (.ListComp a b c d) env) :: starEach es env:=rfl
end
end B
namespace B
open PySem L2 PyProof.Rows
inductive cQ {α:Type} (P:V->α->Prop):List V->List α->Prop where
 | nil:cQ P [] []
 | cons {x:V} {d:α} {xs:List V} {ds:List α} (h:P x d) (t:cQ P xs ds):cQ P (x :: xs) (d :: ds)
theorem cQ.len {α:Type} {P:V->α->Prop}:∀ {xs:List V} {ds:List α},cQ P xs ds->xs.length=ds.length
 | _,_,.nil=>rfl
 | _,_,.cons _ t=>congrArg (·+1) t.len
theorem cQ.mono {α:Type} {P P':V->α->Prop} (m:∀ v d,P v d->P' v d):∀ {xs:List V} {ds:List α},cQ P xs ds->cQ P' xs ds
 | _,_,.nil=>.nil
 | _,_,.cons h t=>.cons (m _ _ h) (t.mono m)
theorem cQ.snoc {α:Type} {P:V->α->Prop} {x:V} {d:α} (k:P x d):∀ {xs:List V} {ds:List α},cQ P xs ds->cQ P (xs++[x]) (ds++[d])
 | _,_,.nil=>.cons k .nil
 | _,_,.cons h t=>.cons h (t.snoc k)
theorem cQ.at {α:Type} {P:V->α->Prop}:∀ {xs:List V} {ds:List α},cQ P xs ds->∀ {i:Nat} {x:V},xs[i]?=some x->∃ d,ds[i]?=some d/\P x d
 | _,_,.cons h _,0,x,e=>by
  rw [List.getElem?_cons_zero] at e
  cases e
  exact⟨_,rfl,h⟩
 | _,_,.cons _ t,i+1,x,e=>t.at (i:=i) (by rw [List.getElem?_cons_succ] at e;exact e)
 | _,_,.nil,_,_,e=>by cases e
theorem cQ.deep {α:Type} {K:PySem.W.Frag} {H:Hp} {P:V->α->Prop} {f:α->PyData} (m:∀ v d,P v d->cb K H v (f d)):∀ {xs:List V} {ds:List α},cQ P xs ds->bb K H xs (ds.map f)
 | _,_,.nil=>.nil
 | _,_,.cons h t=>.cons (m _ _ h) (t.deep m)
end B
namespace B
open PySem PySem.Spec L2 PyProof.Rows
theorem mf {xs:List V} (h:1≤xs.length):eP xs (some 1) none=xs.drop 1:=by
 unfold eP
 rw [show (some (1:Int))=some (((1:Nat):Int)) from rfl,HT.sIx_nat,HT.sIx_none,Nat.min_eq_left h]
 exact List.take_of_length_le (by rw [List.length_drop];omega)
section
set_option autoImplicit true
set_option relaxedAutoImplicit true
theorem yC  {X:Cx} {tg l:Expr} {tl:TE} (hl:QE X l tl):QI X tg l (BQ X.K tl):=⟨yQ hl.p⟩
theorem kx {K:PySem.W.Frag} {es:List Expr} {k:Nat} {t:qo} {n:Nat} {pos:Pos} (hK:X.K=K) (hc:X.calm=true) (h:Cd X es t) (hn:(assignEach es X.env).length=n:=by rfl) (hst:(assignEach es X.env).findIdx? (·.1)=none:=by rfl):QG X (.Tuple es k pos) (wj K n t):=⟨vG hK hc h.p hn hst⟩
end
def C7 (K:PySem.W.Frag):R2:=fun x y H Q=>∃ d d',cb K H x d/\cb K H y d'/\d.canLay0=true/\d'.canLay0=true/\d.depth≤32/\Q (.bl (PyData.eqv d d')) H
theorem y9 {X:Cx} {k:Nat} (hr:cr k X.A):eI X (compareOp .Eq) (C7 X.K):=by
 intro pins s σ H x y v u Q I rx ry h
 obtain⟨d,d',hd,hd',c,c',dp,q⟩:=h
 obtain⟨as,ra⟩:=cb.reads I hd rx
 obtain⟨bs,rb⟩:=cb.reads I hd' ry
 exact SeqAt.compareEq_reads ra rb c c' (by have:=hr.units;omega) ⟨.bl _,H,I,rfl,q⟩
theorem wt {r q:R}:PyData.eqv (dR r) (dR q)=decide (r=q):=by
 by_cases h:r=q
 ·rw [decide_eq_true h,h];exact ur q
 ·rw [decide_eq_false h]
  cases c:PyData.eqv (dR r) (dR q) with
  | false=>rfl
  | true=>exact absurd (zZ c) h
def D5 (K:PySem.W.Frag):List V->Hp->VK->Prop:=fun xs H Q=>∃ a ys n b,xs=[.ref a,.ty n]/\bS K H a ys/\tW "tuple" n=some b/\Q (.bl b) H
section
set_option autoImplicit true
set_option relaxedAutoImplicit true
end
end B
namespace L2
open PySem PySem.Spec PyProof.Rows
section
variable {κ:Type} [DecidableEq κ]
def cY (kvs:List (κ×V)) (k:κ):Option V:=(kvs.find? fun kv=>decide (kv.1=k)).map (·.2)
def db (kvs:List (κ×V)) (k:κ) (v:V):List (κ×V):=
 if (kvs.any fun kv=>decide (kv.1=k))=true then kvs.map (fun kv=>if kv.1=k then (kv.1,v) else kv) else kvs++[(k,v)]
def En (kvs:List (κ×V)) (k:κ):List (κ×V):=kvs.filter fun kv=>decide (kv.1≠k)
theorem cT {p:κ×V} {r:List (κ×V)} {k:κ} (e:p.1=k):cY (p :: r) k=some p.2:=by simp [cY,List.find?_cons,e]
theorem cU {p:κ×V} {r:List (κ×V)} {k:κ} (e:¬ p.1=k):cY (p :: r) k=cY r k:=by simp [cY,List.find?_cons,e]
theorem iC (k:κ):∀ kvs:List (κ×V),(kvs.any fun kv=>decide (kv.1=k))=(cY kvs k).isSome
 | []=>rfl
 | p :: r=>by
  rw [List.any_cons]
  by_cases e:p.1=k
  ·simp only [cT e,decide_eq_true e,Bool.true_or,Option.isSome_some]
  ·rw [cU e,decide_eq_false e,Bool.false_or];exact iC k r
theorem g8 (kvs:List (κ×V)) (k:κ) (v:V):(db kvs k v).length≤kvs.length+1:=by
 unfold db
 split
 ·rw [List.length_map];omega
 ·rw [List.length_append,List.length_cons,List.length_nil];omega
theorem lR {kvs:List (κ×V)} {k:κ} (v:V) (h:cY kvs k=none):db kvs k v=kvs++[(k,v)]:=by
 unfold db
 rw [iC,h]
 exact if_neg (by decide)
theorem eE.isSome_eq {o:Option V} {u:Option Value} (r:eE o u):o.isSome=u.isSome:=by
 cases o with
 | none=>cases u with
  | none=>rfl
  | some _=>exact (show False from r).elim
 | some _=>cases u with
  | none=>exact (show False from r).elim
  | some _=>rfl
theorem eE.getD {o:Option V} {u:Option Value} {d:V} {d':Value} (r:eE o u) (rd:aO d d'):aO (o.getD d) (u.getD d'):=by
 cases o with
 | none=>cases u with
  | none=>exact rd
  | some _=>exact (show False from r).elim
 | some _=>cases u with
  | none=>exact (show False from r).elim
  | some _=>exact r
theorem KV.val {kvs:List (κ×V)} {vs:List (κ×Value)} (r:KV kvs vs) (k:κ):eE (cY kvs k) (valueAt vs k):=by
 unfold KV at r
 induction r with
 | nil=>exact True.intro
 | @cons p q ps qs h t ih=>
  obtain⟨h1,h2⟩:=h
  by_cases e:p.1=k
  ·have e':q.1=k:=h1.symm.trans e
   have b:valueAt (q :: qs) k=some q.2:=by simp [valueAt,List.find?_cons,e']
   rw [cT e,b];exact h2
  ·have e':¬ q.1=k:=fun z=>e (h1.trans z)
   have b:valueAt (q :: qs) k=valueAt qs k:=by simp [valueAt,List.find?_cons,e']
   rw [cU e,b];exact ih
theorem KV.any {kvs:List (κ×V)} {vs:List (κ×Value)} (r:KV kvs vs) (k:κ):(kvs.any fun kv=>decide (kv.1=k))=vs.any fun kv=>decide (kv.1=k):=by
 unfold KV at r
 induction r with
 | nil=>rfl
 | cons h t ih=>rw [List.any_cons,List.any_cons,ih,h.1]
theorem KV.repl {kvs:List (κ×V)} {vs:List (κ×Value)} (r:KV kvs vs) (k:κ) {y:V} {u:Value} (ry:aO y u) :
  KV (kvs.map fun kv=>if kv.1=k then (kv.1,y) else kv) (vs.map fun kv=>if kv.1=k then (kv.1,u) else kv):=by
 unfold KV at r ⊢
 induction r with
 | nil=>exact .nil
 | @cons p q ps qs h t ih=>
  rw [List.map_cons,List.map_cons]
  refine .cons ?_ ih
  obtain⟨h1,h2⟩:=h
  by_cases e:p.1=k
  ·rw [if_pos e,if_pos (h1.symm.trans e)];exact⟨h1,ry⟩
  ·rw [if_neg e,if_neg (fun z=>e (h1.trans z))];exact⟨h1,h2⟩
theorem KV.put {kvs:List (κ×V)} {vs:List (κ×Value)} (r:KV kvs vs) (k:κ) {y:V} {u:Value} (ry:aO y u):KV (db kvs k y) (stored vs k u):=by
 unfold db stored
 rw [r.any k]
 by_cases e:(vs.any fun kv=>decide (kv.1=k))=true
 ·rw [if_pos e,if_pos e];exact r.repl k ry
 ·rw [if_neg e,if_neg e];exact Paired.snoc r ⟨rfl,ry⟩
theorem KV.length {kvs:List (κ×V)} {vs:List (κ×Value)} (r:KV kvs vs):kvs.length=vs.length:=Paired.length r
end
theorem jN {P:Program} {w:World} {k:bR} {u:Value} (r:aO (kV k) u):(ba P w).is k u=true:=by
 cases k with
 | inl i=>obtain⟨t,e⟩:=(show ∃ t,u=Value.int i t from r);subst e;exact lY P w i t
 | inr x=>obtain⟨t,e⟩:=(show ∃ t,u=Value.str x t from r);subst e;exact lX P w x t
theorem jO {P:Program} {w:World}:∀ {ks:List bR} {us:List Value},aR (ks.map kV) us->ItemsAre (ba P w) ks us
 | [],_,r=>by rw [List.map_nil] at r;cases r;exact .nil
 | k :: ks,_,r=>by
  rw [List.map_cons] at r
  cases r with
  | cons h t=>exact .cons (jN h) (jO t)
abbrev KT (H:Hp):List (List bR×V)->List (List bR×Addr×Value)->Prop:=Paired fun p q=>p.1=q.1/\H q.2.1=some (.tup (p.1.map kV))/\aO p.2 q.2.2
theorem KT.val {H:Hp} {kvs:List (List bR×V)} {xs:List (List bR×Addr×Value)} (r:KT H kvs xs) (k:List bR):eE (cY kvs k) ((atKey xs k).map (·.2)):=by
 induction r with
 | nil=>exact True.intro
 | @cons p q ps qs h t ih=>
  obtain⟨h1,_,h2⟩:=h
  by_cases e:p.1=k
  ·have e':q.1=k:=h1.symm.trans e
   have b:atKey (q :: qs) k=some q.2:=by simp [atKey,List.find?_cons,e']
   rw [cT e,b];exact h2
  ·have e':¬ q.1=k:=fun z=>e (h1.trans z)
   have b:atKey (q :: qs) k=atKey qs k:=by simp [atKey,List.find?_cons,e']
   rw [cU e,b];exact ih
theorem KT.repl {H:Hp} {kvs:List (List bR×V)} {xs:List (List bR×Addr×Value)} (r:KT H kvs xs) (k:List bR) {y:V} {u:Value} (ry:aO y u) :
  KT H (kvs.map fun kv=>if kv.1=k then (kv.1,y) else kv) (xs.map (putAt k u)):=by
 induction r with
 | nil=>exact .nil
 | @cons p q ps qs h t ih=>
  rw [List.map_cons,List.map_cons]
  refine .cons ?_ ih
  obtain⟨h1,h2,h3⟩:=h
  unfold putAt
  by_cases e:p.1=k
  ·rw [if_pos e,if_pos (h1.symm.trans e)];exact⟨h1,h2,ry⟩
  ·rw [if_neg e,if_neg (fun z=>e (h1.trans z))];exact⟨h1,h2,h3⟩
theorem KT.put {H:Hp} {kvs:List (List bR×V)} {xs:List (List bR×Addr×Value)} (r:KT H kvs xs) (k:List bR) {b:Addr} {y:V} {u:Value} (hb:H b=some (.tup (k.map kV))) (ry:aO y u) :
  KT H (db kvs k y) (storedH xs k b u):=by
 have e:(kvs.any fun kv=>decide (kv.1=k))=(atKey xs k).isSome:=by
  rw [iC,(r.val k).isSome_eq,Option.isSome_map]
 unfold db storedH
 rw [e]
 by_cases q:(atKey xs k).isSome=true
 ·rw [if_pos q,if_pos q];exact r.repl k ry
 ·rw [if_neg q,if_neg q];exact Paired.snoc r ⟨rfl,hb,ry⟩
theorem KT.keeps {H H':Hp} {kvs:List (List bR×V)} {xs:List (List bR×Addr×Value)} (r:KT H kvs xs) (ht:∀ b ys,H b=some (.tup ys)->H' b=some (.tup ys)):KT H' kvs xs:=
 Paired.mapP r fun _ _ z=>⟨z.1,ht _ _ z.2.1,z.2.2⟩
section
variable {P:Program} {w:World} {H:Hp} {h:Heap} {a:Addr}
theorem xg {u:HO} (ok:fN P w H h) (e:Rd H a u):bf P w H h a u:=e.ok ok
theorem hJ {kvs:List (bR×V)} (ok:fN P w H h) (e:Rd H a (.dK kvs)):kvs.length≤sizeLine/\(a == sysModules)=false/\∃ vs,KV kvs vs/\h.DictOf (ba P w) a vs:=
 show bf P w H h a (.dK kvs) from xg ok e
theorem uv {kvs:List (bR×V)} (ok:fN P w H h) (e:H a=some (.dK kvs)):kvs.length≤sizeLine/\(a == sysModules)=false/\∃ vs,KV kvs vs/\h.DictOf (ba P w) a vs:=hJ ok (.inl e)
theorem gO {ks:List bR} (ok:fN P w H h) (e:H a=some (.tup (ks.map kV))):(tupleKind (ba P w)).is h ks a:=by
 obtain⟨_,its,r,o,h1,h2,n,h3⟩:=(show bf P w H h a (.tup (ks.map kV)) from ok a _ e)
 exact⟨o,its.toArray,n,h1,h2,h3,by simpa using jO r⟩
theorem jb {kvs:List (List bR×V)} (ok:fN P w H h) (e:Rd H a (.dT kvs)):kvs.length≤sizeLine/\(a == sysModules)=false∧
  ∃ xs,KT H kvs xs/\h.DictOfH (tupleKind (ba P w)) a xs:=by
 obtain⟨z,y,xs,r,o,es,ep,h1,h2,h3,h4,h5⟩:=(show bf P w H h a (.dT kvs) from xg ok e)
 refine⟨z,y,xs,r,o,es,ep,h1,h2,h3,h4,fun x hx=>?_,h5⟩
 have all:∀ {l:List (List bR×V)} {m:List (List bR×Addr×Value)},KT H l m->∀ x∈m,(tupleKind (ba P w)).is h x.1 x.2.1:=by
  intro l m q
  induction q with
  | nil=>intro x hx;exact nomatch hx
  | @cons p q ps qs hq t ih=>
   intro x hx
   rcases List.mem_cons.mp hx with e | hx
   ·subst e
    exact gO ok (by rw [← hq.1];exact hq.2.1)
   ·exact ih x hx
 exact all r x hx
theorem B2 {kvs:List (List bR×V)} (ok:fN P w H h) (e:H a=some (.dT kvs)):kvs.length≤sizeLine/\(a == sysModules)=false∧
  ∃ xs,KT H kvs xs/\h.DictOfH (tupleKind (ba P w)) a xs:=jb ok (.inl e)
end
def fj (H:Hp) (a:Addr) (y:V) (r:Option V):Prop:=
 (∃ kvs k,Rd H a (.dK kvs)/\y=kV k/\r=cY kvs k)∨∃ kvs k b,Rd H a (.dT kvs)/\y=.ref b/\H b=some (.tup (k.map kV))/\r=cY kvs k
def jk (H:Hp) (a:Addr) (y v:V) (H':Hp):Prop:=
 (∃ kvs k,H a=some (.dK kvs)/\y=kV k/\kvs.length < sizeLine/\H'=ax H a (.dK (db kvs k v)))∨
 ∃ kvs k b,H a=some (.dT kvs)/\y=.ref b/\H b=some (.tup (k.map kV))/\kvs.length < sizeLine/\H'=ax H a (.dT (db kvs k v))
theorem fj.k {H:Hp} {a:Addr} {kvs:List (bR×V)} {k:bR} (e:H a=some (.dK kvs)):fj H a (kV k) (cY kvs k):=.inl ⟨kvs,k,.inl e,rfl,rfl⟩
theorem jk.k {H:Hp} {a:Addr} {kvs:List (bR×V)} {k:bR} {v:V} (e:H a=some (.dK kvs)) (hl:kvs.length < sizeLine):jk H a (kV k) v (ax H a (.dK (db kvs k v))):=.inl ⟨kvs,k,e,rfl,hl,rfl⟩
section
variable {X:Cx} {pins:List (Addr×Obj)} {σ:St} {H:Hp} {s:Shared} {a:Addr} {y v:V} {u r:Value} {o:Option V} {A:Around} {E:Value->Shared->Prop}
theorem Inv.big (I:Inv X pins σ H s):sysModules < s.heap.objs.size:=by
 have h:mainGlobals < s.heap.objs.size:=(I.mod.glob.keeps I.bk).lt
 exact Nat.lt_trans (by decide) h
theorem qc {Q:Value->Shared->Prop} (hu:A.units+1 < cLine) (I:Inv X pins σ H s) (g:fj H a y (some v)) (ry:aO y u) (h:∀ w' s',Inv X pins σ H s'->aO v w'->Q w' s') :
  wpAny (model X.prog X.w) A (getItem (.ref a) u) Q E s:=by
 rcases g with ⟨kvs,k,e,ey,l⟩ | ⟨kvs,k,b,e,ey,eb,l⟩
 ·subst ey
  obtain⟨z,hd,vs,rel,dd⟩:=hJ I.hok e
  obtain⟨w',hw,rw'⟩:=eE.some_of (v:=v) (o:=valueAt vs k) (by rw [l];exact rel.val k)
  exact wpAny_getItem_of (jN ry) dd.mapOf hw (h w' _ (I.tok _) rw')
 ·subst ey
  cases (show u=Value.ref b from ry)
  obtain⟨z,hd,xs,rel,dd⟩:=jb I.hok e
  obtain⟨w',hw,rw'⟩:=eE.some_of (v:=v) (o:=(atKey xs k).map (·.2)) (by rw [l];exact rel.val k)
  obtain⟨p,hp,hp2⟩:=Option.map_eq_some_iff.mp hw
  refine wpAny_getItem_heap (tupleKind_room_in1 hu) (gO I.hok eb) dd hp ?_
  rw [hp2]
  exact h w' _ (I.tok _) rw'
theorem Do {Q:Value->Shared->Prop} (hu:A.units+1 < cLine) (I:Inv X pins σ H s) (g:fj H a y o) (ry:aO y u) (h:∀ s',Inv X pins σ H s'->Q (.bool o.isSome) s') :
  wpAny (model X.prog X.w) A (compareOp .In u (.ref a)) Q E s:=by
 rcases g with ⟨kvs,k,e,ey,l⟩ | ⟨kvs,k,b,e,ey,eb,l⟩
 ·subst ey
  obtain⟨z,hd,vs,rel,dd⟩:=hJ I.hok e
  refine wpAny_in_of (jN ry) hd dd.mapOf ?_
  rw [← (rel.val k).isSome_eq,← l]
  exact h _ (I.tok _)
 ·subst ey
  cases (show u=Value.ref b from ry)
  obtain⟨z,hd,xs,rel,dd⟩:=jb I.hok e
  refine wpAny_in_heap (tupleKind_room_in1 hu) (gO I.hok eb) hd dd ?_
  have q:=(rel.val k).isSome_eq
  rw [Option.isSome_map] at q
  rw [← q,← l]
  exact h _ (I.tok _)
theorem wy {Q:Value->Shared->Prop} (hu:A.units+1 < cLine) (I:Inv X pins σ H s) (g:fj H a y o) (ry:aO y u) (h:∀ s',Inv X pins σ H s'->Q (.bool (!o.isSome)) s') :
  wpAny (model X.prog X.w) A (compareOp .NotIn u (.ref a)) Q E s:=by
 rcases g with ⟨kvs,k,e,ey,l⟩ | ⟨kvs,k,b,e,ey,eb,l⟩
 ·subst ey
  obtain⟨z,hd,vs,rel,dd⟩:=hJ I.hok e
  refine wpAny_notIn_of (jN ry) hd dd.mapOf ?_
  rw [← (rel.val k).isSome_eq,← l]
  exact h _ (I.tok _)
 ·subst ey
  cases (show u=Value.ref b from ry)
  obtain⟨z,hd,xs,rel,dd⟩:=jb I.hok e
  refine wpAny_notIn_heap (tupleKind_room_in1 hu) (gO I.hok eb) hd dd ?_
  have q:=(rel.val k).isSome_eq
  rw [Option.isSome_map] at q
  rw [← q,← l]
  exact h _ (I.tok _)
theorem iz {h':Heap} {t':Nat} {ob:HO} (I:Inv X pins σ H s) (mu:Cf (H a)) (hs:Heap.SameBut a s.heap h') (he:∃ q,h'.get? a=some q) (new:bf X.prog X.w (ax H a ob) h' a ob) :
  Inv X pins σ (ax H a ob) { s with heap:=h',toks:=t' }:=
 I.write (x:=a) (e:=a) mu (.inl rfl) (fun b q hb z=>(hs.2 b hb).trans z) he new
theorem Aa {P:Program} {w:World} {H':Hp} {h':Heap} {kvs:List (bR×V)} {vs:List (bR×Value)} (z:kvs.length≤sizeLine) (hd:(a == sysModules)=false) (rel:KV kvs vs) (dd:h'.DictOf (ba P w) a vs) :
  bf P w H' h' a (.dK kvs):=⟨z,hd,vs,rel,dd⟩
theorem qb {H':Hp} {Q:Unit->Shared->Prop} (hu:A.units+1 < cLine) (I:Inv X pins σ H s) (g:jk H a y v H') (ry:aO y u) (rv:aO v r) (h:∀ s',Inv X pins σ H' s'->Q () s') :
  wpAny (model X.prog X.w) A (setItem (.ref a) u r) Q E s:=by
 rcases g with ⟨kvs,k,e,ey,l,eH⟩ | ⟨kvs,k,b,e,ey,eb,l,eH⟩
 ·subst ey eH
  obtain⟨z,hd,vs,rel,dd⟩:=uv I.hok e
  have hz:vs.length≤sizeLine:=by rw [← rel.length];exact z
  have hl:(db kvs k v).length≤sizeLine:=by have:=g8 kvs k v;omega
  refine wpAny_setItem_pairs (hsz:=hz) (jN ry) dd fun h' dd' hs=>h _ ?_
  have he:∃ q,h'.get? a=some q:=let ⟨q,_,_,hq,_⟩:=dd';⟨q,hq⟩
  exact iz I (by rw [e];exact True.intro) hs he (Aa hl hd (rel.put k rv) dd')
 ·subst ey eH
  cases (show u=Value.ref b from ry)
  obtain⟨z,hd,xs,rel,dd⟩:=B2 I.hok e
  have hz:xs.length≤sizeLine:=by rw [← Paired.length rel];exact z
  have hl:(db kvs k v).length≤sizeLine:=by have:=g8 kvs k v;omega
  refine wpAny_setItem_heap (hsz:=hz) (tupleKind_room_in1 hu) (gO I.hok eb) dd fun h' dd' hs=>h _ ?_
  obtain⟨q,es,ep,hq,h2,h3,h4,_,h5⟩:=dd'
  refine iz I (by rw [e];exact True.intro) hs ⟨q,hq⟩ ⟨hl,hd,_,(rel.put k eb rv).keeps fun c ys ec=>?_,q,es,ep,hq,h2,h3,h4,h5⟩
  rw [aj (BK ec e (fun z=>nomatch z))]
  exact ec
end
section
variable {X:Cx} {pins:List (Addr×Obj)} {σ:St} {H:Hp} {s:Shared} {a:Addr} {kvs:List (bR×V)} {k:bR} {u:Value} {A:Around} {E:Value->Shared->Prop}
theorem B4 {Q:Value->Shared->Prop} (I:Inv X pins σ H s) (e:Rd H a (.dK kvs)) (h:∀ t s',Inv X pins σ H s'->Q (.int kvs.length t) s'):wpAny (model X.prog X.w) A (call (.builtin "len") [.ref a]) Q E s:=by
 obtain⟨z,hd,vs,rel,dd⟩:=hJ I.hok e
 refine call_len_dict hd dd (by rw [← rel.length];rw [sizeLine_eq] at z;omega) ?_
 rw [← rel.length]
 exact h _ _ (I.tok _)
end
def Aq (i:Expr):Prop:=∀ ov iv,subscripted i false ov iv=operate [ov,iv] (getItem ov iv)
theorem uV {prog:Program} {w:World} {A:Around} {E:Value->Shared->Prop} {s:Shared} {env:Env} {value slice:Expr} {pos:Pos} {T id:String} {Q:Value->Shared->Prop}
  (hl:typeLookup (.type T) "__getitem__" = pure (some (.builtin id))) (hs:Aq slice)
  (h:wpAny (model prog w) A (eval value env) (fun o s₁=>wpAny (model prog w) A (eval slice env) (fun i s₂=>s₂.TypeIs o T/\wpAny (model prog w) A (getItem o i) Q E s₂) E s₁) E s) :
  wpAny (model prog w) A (eval (.Subscript value slice pos) env) Q E s:=by
 refine Subscript_ (wpAny_mono h (fun o s₁ h₁=>wpAny_mono h₁ (fun i s₂ h₂=>?_) fun _ _ x=>x) fun _ _ x=>x)
 obtain⟨hT,h₂⟩:=h₂
 unfold subscriptTail
 refine wpAny_bind ?_
 rw [getitemInPython_of_ne hT.not_modules]
 refine wpAny_bind (wpAny_specialOf hT hl ?_)
 have fin:wpAny (model prog w) A (subscripted slice false o i) (fun r s₃=>wpAny (model prog w) A (letTemporaryGo value o r >>= fun _=>pure r) Q E s₃) E s₂:=by
  rw [hs o i]
  exact wpAny_operating (wpAny_mono h₂ (fun r s₃ h₃=>wpAny_bind (wpAny_letTemporaryGo (wpAny_pure h₃))) fun _ _ x=>x)
 first
  | exact wpAny_pure (wpAny_bind fin)
  | exact wpAny_bind (wpAny_pure (wpAny_bind fin))
  | exact wpAny_bind fin
theorem md {X:Cx} {pins:List (Addr×Obj)} {σ:St} {H:Hp} {s:Shared} {a:Addr} {y:V} {o:Option V} (I:Inv X pins σ H s) (g:fj H a y o):s.TypeIs (.ref a) "dict" := by
 rcases g with ⟨kvs,k,e,_,_⟩ | ⟨kvs,k,b,e,_,_,_⟩
 ·obtain⟨_,_,vs,_,dd⟩:=hJ I.hok e
  exact dd.typeIs
 ·obtain⟨_,_,xs,_,dd⟩:=jb I.hok e
  exact dd.typeIs
def wU (td ty:TE):TE:=fun σ H Q=>td σ H fun x H1=>ty σ H1 fun y H2=>∃ a v,x=.ref a/\fj H2 a y (some v)/\Q v H2
def AZ (ty td:TE):TE:=fun σ H Q=>ty σ H fun y H1=>td σ H1 fun x H2=>∃ a o,x=.ref a/\fj H2 a y o/\Q (.bl o.isSome) H2
def oz (ty td:TE):TE:=fun σ H Q=>ty σ H fun y H1=>td σ H1 fun x H2=>∃ a o,x=.ref a/\fj H2 a y o/\Q (.bl (!o.isSome)) H2
def xf (td ty tv:TE):TS:=fun D σ H=>tv σ H fun v H1=>td σ H1 fun x H2=>ty σ H2 fun y H3=>∃ a H4,x=.ref a/\jk H3 a y v H4/\D.nx σ H4
def DX (td ty tv:TE) (rd:V->V->Hp->VK->Prop):TS:=fun D σ H=>td σ H fun x H1=>ty σ H1 fun y H2=>∃ a v,x=.ref a/\fj H2 a y (some v)∧
 tv σ H2 fun y2 H3=>rd v y2 H3 fun z H4=>∃ H5,jk H4 a y z H5/\D.nx σ H5
section
variable {X:Cx} {o i e value:Expr} {pos pos' tpos:Pos} {td ty tv:TE}
theorem vO (hu:X.A.units+1 < cLine) (ho:PE X o td) (hi:PE X i ty) (hs:Aq i):PE X (.Subscript o i pos) (wU td ty):=by
 intro pins s σ H Q I h
 refine uV PySem.F.slot_dict_getitem.lookup hs (bc (ho pins s σ H _ I h) fun u s1 ⟨x,H1,I1,rx,q1⟩=>bc (hi pins s1 σ H1 _ I1 q1) fun iv s2 ⟨y,H2,I2,ry,a,v,ex,g,q2⟩=>?_)
 subst ex
 obtain rfl:u=Value.ref a:=rx
 exact⟨md I2 g,qc hu I2 g ry fun w' s3 I3 rw'=>⟨v,H2,I3,rw',q2⟩⟩
theorem yY (hu:X.A.units+1 < cLine) (hi:PE X i ty) (ho:PE X o td):PC X .In i o (AZ ty td):=by
 intro pins s σ H Q I h
 refine bc (hi pins s σ H _ I h) fun iv s1 ⟨y,H1,I1,ry,q1⟩=>bc (ho pins s1 σ H1 _ I1 q1) fun u s2 ⟨x,H2,I2,rx,a,ov,ex,g,q2⟩=>?_
 subst ex
 obtain rfl:u=Value.ref a:=rx
 exact Do hu I2 g ry fun s3 I3=>⟨.bl ov.isSome,H2,I3,rfl,q2⟩
theorem pW (hu:X.A.units+1 < cLine) (hi:PE X i ty) (ho:PE X o td):PC X .NotIn i o (oz ty td):=by
 intro pins s σ H Q I h
 refine bc (hi pins s σ H _ I h) fun iv s1 ⟨y,H1,I1,ry,q1⟩=>bc (ho pins s1 σ H1 _ I1 q1) fun u s2 ⟨x,H2,I2,rx,a,ov,ex,g,q2⟩=>?_
 subst ex
 obtain rfl:u=Value.ref a:=rx
 exact wy hu I2 g ry fun s3 I3=>⟨.bl (!ov.isSome),H2,I3,rfl,q2⟩
theorem vy (hu:X.A.units+1 < cLine) (ho:PE X o td) (hi:PE X i ty) (hv:PE X value tv) (hs:swapsWith value (some (.Subscript o i pos')) pos.line X.env=pure false) :
  PS X (.Assign [.Subscript o i pos'] value pos) (xf td ty tv):=by
 intro pins s σ H D I h
 refine wpAny_Assign_Subscript (bc (hv pins s σ H _ I h) fun r s1 ⟨v,H1,I1,rv,q1⟩=>bc (ho pins s1 σ H1 _ I1 q1) fun u s2 ⟨x,H2,I2,rx,q2⟩=>bc (hi pins s2 σ H2 _ I2 q2) fun iv s3 ⟨y,H3,I3,ry,a,H4,ex,g,q3⟩=>?_) hs
 subst ex
 obtain rfl:u=Value.ref a:=rx
 exact qb hu I3 g ry rv fun s4 I4=>⟨σ,H4,I4,q3⟩
end
theorem uw {P:Program} {w:World} {H:Hp} (h:Heap) (hb:sysModules < h.objs.size):bf P w H (h.push { cls:=.type "dict", data:=.dict #[] }) h.objs.size (.dK []):=
 ⟨Nat.zero_le _,beq_eq_false_iff_ne.mpr (Ne.symm (Nat.ne_of_lt hb)),[],.nil,Heap.DictOf.new h⟩
def qF:TE:=fun _ H Q=>∀ p,H p=none->Q (.ref p) (ax H p (.dK []))
section
variable {X:Cx} {pos:Pos}
theorem tj:PE X (.Dict [] [] pos) qF:=fun pins s σ H Q I h=>
 wpAny_Dict_empty ⟨.ref s.heap.objs.size,_,I.laid (a:=s.heap.objs.size) (o:=.dK []) (t':=s.toks) (fun _ _ q=>Heap.get?_push_of_some _ q) (Nat.le_refl _) (uw s.heap I.big),rfl,h _ (I.hok.fresh (Nat.le_refl _))⟩
end
def mQ:List (TE×TE)->St->Hp->(List (V×V)->Hp->Prop)->Prop
 | [],_,H,Q=>Q [] H
 | (tk,tv) :: r,σ,H,Q=>tk σ H fun x H1=>tv σ H1 fun y H2=>mQ r σ H2 fun ps H3=>Q ((x,y) :: ps) H3
abbrev VV:List (V×V)->List (Value×Value)->Prop:=Paired fun p q=>aO p.1 q.1/\aO p.2 q.2
def FZ (X:Cx) (pos:Pos) (keys:List (Option Expr)) (values:List Expr) (trs:List (TE×TE)):Prop:=
 ∀ (pins:List (Addr×Obj)) (s:Shared) (σ:St) (H:Hp) (Q:List (V×V)->Hp->Prop),Inv X pins σ H s->mQ trs σ H Q→
  wpAny (model X.prog X.w) X.A (evalPairs (pairTrees keys values X.env pos)) (fun vs s'=>∃ ps H',Inv X pins σ H' s'/\VV ps vs/\Q ps H') X.xe s
def zL (kvs more:List (bR×V)):List (bR×V):=more.foldl (fun acc kv=>db acc kv.1 kv.2) kvs
def DQ (trs:List (TE×TE)):TE:=fun σ H Q=>∀ p,H p=none->mQ trs σ (ax H p (.dK [])) fun ps H2=>H2 p=some (.dK [])/\∃ kvs:List (bR×V),ps=kvs.map (fun kv=>(kV kv.1,kv.2))/\kvs.length≤15/\Q (.ref p) (ax H2 p (.dK (zL [] kvs)))
structure M1 (X:Cx) (o:Expr) (m:Str) (apos:Pos) (e:Expr) (cpos:Pos):Prop where
 base:attributeBase o m X.env (eval o X.env)=eval o X.env
 few:((backTo cpos (starEach [e] X.env)).all (fun x=>!x.1) && (backToKw cpos (keywordEach [] X.env)).all (fun x=>x.1.isSome)
  && decide (([e]:List Expr).length+([]:List Keyword).length+(if ([]:List Keyword).isEmpty then 0 else 1) < 30))=true
 line:(apos.endLine == cpos.line)=true
 trees:backTo cpos (starEach [e] X.env)=[(false,eval e X.env)]
structure M2 (X:Cx) (o:Expr) (m:Str) (apos:Pos) (e f:Expr) (cpos:Pos):Prop where
 base:attributeBase o m X.env (eval o X.env)=eval o X.env
 few:((backTo cpos (starEach [e,f] X.env)).all (fun x=>!x.1) && (backToKw cpos (keywordEach [] X.env)).all (fun x=>x.1.isSome)
  && decide (([e,f]:List Expr).length+([]:List Keyword).length+(if ([]:List Keyword).isEmpty then 0 else 1) < 30))=true
 line:(apos.endLine == cpos.line)=true
 trees:backTo cpos (starEach [e,f] X.env)=[(false,eval e X.env),(false,eval f X.env)]
def Dx (H:Hp) (a:Addr):Prop:=(∃ kvs,Rd H a (.dK kvs))∨∃ kvs,Rd H a (.dT kvs)
theorem t8 {X:Cx} {pins:List (Addr×Obj)} {σ:St} {H:Hp} {s:Shared} {a:Addr} (I:Inv X pins σ H s) (d:Dx H a) :
  s.TypeIs (.ref a) "dict" /\ (∀ b,Value.ref a=.ref b->∃ ob,s.heap.get? b=some ob/\ob.dict=none)/\(a == sysModules)=false:=by
 rcases d with ⟨kvs,e⟩ | ⟨kvs,e⟩
 ·obtain⟨_,hd,vs,_,dd⟩:=hJ I.hok e
  refine⟨dd.typeIs,fun b q=>?_,hd⟩
  cases q
  obtain⟨ob,_,_,h1,h2,_⟩:=dd
  exact⟨ob,h1,h2.2.1⟩
 ·obtain⟨_,hd,xs,_,dd⟩:=jb I.hok e
  refine⟨dd.typeIs,fun b q=>?_,hd⟩
  cases q
  obtain⟨ob,_,_,h1,h2,_⟩:=dd
  exact⟨ob,h1,h2.2.1⟩
section
variable {X:Cx} {pins:List (Addr×Obj)} {σ:St} {H:Hp} {s:Shared} {a:Addr} {y d:V} {u r:Value} {o:Option V} {A:Around} {E:Value->Shared->Prop}
theorem Ab {Q:Value->Shared->Prop} (hu:A.units+1 < cLine) (I:Inv X pins σ H s) (g:fj H a y o) (ry:aO y u) (rd:aO d r) (h:∀ w' s',Inv X pins σ H s'->aO (o.getD d) w'->Q w' s') :
  wpAny (model X.prog X.w) A (call (.builtin "dict.get") [.ref a,u,r]) Q E s:=by
 rcases g with ⟨kvs,k,e,ey,l⟩ | ⟨kvs,k,b,e,ey,eb,l⟩
 ·subst ey
  obtain⟨z,hd,vs,rel,dd⟩:=hJ I.hok e
  refine call_meetsIn PySem.F.slot_dict_get dd.typeIs PySem.F.entry_dict_get (PySem.F.args_dict_get_3 _ _ _) (meets_dict_get_default (ba X.prog X.w) a (jN ry) hd r) ⟨_,dd.mapOf,h _ _ (I.tok _) ?_⟩
  rw [l]
  exact (rel.val k).getD rd
 ·subst ey
  cases (show u=Value.ref b from ry)
  obtain⟨z,hd,xs,rel,dd⟩:=jb I.hok e
  refine call_meetsIn PySem.F.slot_dict_get dd.typeIs PySem.F.entry_dict_get (PySem.F.args_dict_get_3 _ _ _) (meetsH_dict_get_default (tupleKind (ba X.prog X.w)) a b hd r) ⟨tupleKind_room_in1 hu,k,xs,gO I.hok eb,dd,h _ _ (I.tok _) ?_⟩
  rw [l]
  exact (rel.val k).getD rd
end
def CT (td ty:TE):TE:=fun σ H Q=>td σ H fun x H1=>∃ a,x=.ref a/\Dx H1 a/\ty σ H1 fun y H2=>∃ o,fj H2 a y o/\Q (o.getD .non) H2
def qH (td ty tx:TE):TE:=fun σ H Q=>td σ H fun x H1=>∃ a,x=.ref a/\Dx H1 a/\ty σ H1 fun y H2=>tx σ H2 fun z H3=>∃ o,fj H3 a y o/\Q (o.getD z) H3
section
variable {X:Cx} {o e f:Expr} {apos cpos:Pos} {td ty tx:TE}
theorem tq (hu:X.A.units+1 < cLine) (ho:PE X o td) (he:PE X e ty) (hf:PE X f tx) (m:M2 X o "get" apos e f cpos):PE X (.Call (.Attribute o "get" apos) [e,f] [] cpos) (qH td ty tx):=by
 intro pins s σ H Q I h
 refine wpAny_Call_method m.base m.few m.line PySem.F.plainAttrs_dict PySem.F.slot_dict_get PySem.F.type_dict_get (bc (ho pins s σ H _ I h) fun u s1 ⟨x,H1,I1,rx,a,ex,d,q1⟩=>?_)
 subst ex
 obtain rfl:u=Value.ref a:=rx
 obtain⟨t1,t2,_⟩:=t8 I1 d
 refine⟨t1,t2,?_⟩
 rw [m.trees]
 refine Calls.callWith_builtin rfl (Calls.evalArgs_plain (Calls.spliced_cons (bc (he pins s1 σ H1 _ I1 q1) fun iv s2 ⟨y,H2,I2,ry,q2⟩=>
  Calls.spliced_cons (bc (hf pins s2 σ H2 _ I2 q2) fun fv s3 ⟨z,H3,I3,rz,ov,g,q3⟩=>Calls.spliced_nil ?_))))
 exact Ab hu I3 g ry rz fun w' s4 I4 rw'=>⟨_,H3,I4,rw',q3⟩
end
end L2
namespace B
open PySem PySem.Spec L2 PyProof.Rows
def EL:PyData->String
 | .none => "NoneType"
 | .bool _ => "bool"
 | .int _ => "int"
 | .str _ => "str"
 | .list _ => "list"
 | .tuple _ => "tuple"
 | .dict _ => "dict"
def D6 (K:PySem.W.Frag):List V->Hp->VK->Prop:=fun xs H Q=>∃ v d n b,xs=[v,.ty n]/\cb K H v d/\tW (EL d) n=some b/\Q (.bl b) H
def CM:PyData->Bool
 | .int _=>true
 | _=>false
def EN (n:Nat):PyData->Bool
 | .tuple xs=>decide (xs.length=n)
 | _=>false
def Bc:PyData->Bool
 | .tuple [.int a,.int b]=>decide (1≤b) && decide (Int.gcd a b=1)
 | _=>false
def Ee:PyData->Bool
 | .tuple [x,y]=>Bc x && Bc y
 | _=>false
structure Sh (k n:Nat) (d:PyData):Prop where
 sh:d.showable=true
 nd:d.hasDict=false
 dp:d.depth≤k
 sz:d.shown.length≤n
theorem Sh.mono {k n k' n':Nat} {d:PyData} (h:Sh k n d) (hk:k≤k') (hn:n≤n'):Sh k' n' d:=⟨h.sh,h.nd,Nat.le_trans h.dp hk,Nat.le_trans h.sz hn⟩
theorem Sh.all {k n:Nat}:∀ {ds:List PyData},(∀ d∈ds,Sh k n d)->PyData.showableAll ds=true/\PyData.hasDictAll ds=false/\PyData.depthAll ds≤k/\((PyData.shownAll ds).map (·.length)).sum≤n * ds.length/\(PyData.shownAll ds).length=ds.length
 | [],_=>⟨rfl,rfl,Nat.zero_le _,Nat.zero_le _,rfl⟩
 | d :: ds,h=>by
  obtain⟨a,b,c,e,f⟩:=Sh.all (ds:=ds) fun x hx=>h x (List.mem_cons_of_mem _ hx)
  have z:=h d List.mem_cons_self
  refine⟨?_,?_,?_,?_,?_⟩
  ·show (d.showable && PyData.showableAll ds)=true
   rw [z.sh,a];rfl
  ·show (d.hasDict || PyData.hasDictAll ds)=false
   rw [z.nd,b];rfl
  ·show max d.depth (PyData.depthAll ds)≤k
   exact Nat.max_le.mpr ⟨z.dp,c⟩
  ·show d.shown.length+((PyData.shownAll ds).map (·.length)).sum≤n * (ds.length+1)
   have:=z.sz
   rw [Nat.mul_succ];omega
  ·show (PyData.shownAll ds).length+1=ds.length+1
   rw [f]
theorem Sh.tup {k n m N:Nat} {ds:List PyData} (h:∀ d∈ds,Sh k n d) (hm:ds.length≤m) (hN:(n+3) * m+8≤N):Sh (k+1) N (.tuple ds):=by
 obtain⟨a,b,c,e,f⟩:=Sh.all h
 refine⟨a,b,Nat.succ_le_succ c,?_⟩
 show (tupleText (PyData.shownAll ds)).length≤N
 have q:=tupleText_len_le (PyData.shownAll ds)
 have l:n * ds.length+3 * ds.length≤(n+3) * m:=by
  rw [← Nat.add_mul]
  exact Nat.mul_le_mul_left _ hm
 omega
theorem Sh.shows {k n:Nat} {d:PyData} (h:Sh k n d) (hk:k≤16) (hn:n≤16777216):ph d:=⟨h.sh,h.nd,Nat.le_trans h.sz (Nat.le_trans hn (by decide)),Nat.le_trans h.dp hk⟩
mutual
theorem cb.same {K:PySem.W.Frag} {H H':Hp} (s:az H H'):∀ {v:V} {d:PyData},cb K H v d->cb K H' v d
 | _,_,.non=>.non
 | _,_,.bl b=>.bl b
 | _,_,.int i=>.int i
 | _,_,.str x=>.str x
 | _,_,.lst e t=>.lst (s.seq e) (bb.same s t)
 | _,_,.tup e t=>.tup (be.same s _ _ e) (bb.same s t)
theorem bb.same {K:PySem.W.Frag} {H H':Hp} (s:az H H'):∀ {vs:List V} {ds:List PyData},bb K H vs ds->bb K H' vs ds
 | _,_,.nil=>.nil
 | _,_,.cons h t=>.cons (cb.same s h) (bb.same s t)
end
end B
namespace B
open PySem PySem.Spec L2 PyProof.Rows
def Eb (K:PySem.W.Frag):R2:=fun x y H Q=>∃ a b xs ys,x=.ref a/\y=.ref b/\bS K H a xs/\bS K H b ys/\xs.length+ys.length≤sizeLine/\∀ p H',az H H'->bS K H' p (xs++ys)->Q (.ref p) H'
def CY (K:PySem.W.Frag):V->Option Int->Option Int->Hp->VK->Prop:=fun x lo hi H Q=>∃ a xs,x=.ref a/\bS K H a xs/\∀ p H',az H H'->bS K H' p (eP xs lo hi)->Q (.ref p) H'
theorem u4 {X:Cx}:qx X (CY X.K):=by
 intro pins s σ H x v vl vu lo hi sl Q I rx hs pl pu h
 obtain⟨a,xs,rfl,hx,q⟩:=h
 refine u5 pins s σ H _ v vl vu lo hi sl Q I rx hs pl pu ?_
 by_cases c:HT.sIx xs.length 0 lo=0/\HT.sIx xs.length xs.length hi=xs.length
 ·refine .inl ⟨a,xs,rfl,hx,c.1,c.2,q a H (az.refl H) ?_⟩
  have e:eP xs lo hi=xs:=by
   unfold eP
   rw [c.1,c.2,List.drop_zero,Nat.sub_zero,List.take_length]
  rw [e]
  exact hx
 ·exact .inr ⟨a,xs,rfl,hx,c,fun p hp=>q p _ (ai hp _) (bS.of ae)⟩
theorem Ae {xs:List V} {n:Nat} (h:n≤xs.length):eP xs none (some (n:Int))=xs.take n:=by
 unfold eP
 rw [HT.sIx_nat,HT.sIx_none,Nat.min_eq_left h,Nat.sub_zero,List.drop_zero]
def Fp (K:PySem.W.Frag) (s:Addr):Prop:=∃ ns:List Int,ns.length≤63/\∀ H:Hp,aF K H s (ns.map V.int)
structure uI (K:PySem.W.Frag) (H:Hp) (t s:Addr):Prop where
 ex:∃ (ns:List Int) (p q:Int),H t=some (.lst [.ref s,.int p,.int q])/\((Rd H s (.lst (ns.map V.int))/\s≠t)∨∀ H',aF K H' s (ns.map V.int))/\ns.length≤63/\0≤p/\0≤q
def A3 (K:PySem.W.Frag):Sp:=fun vs H Q _=>∃ (a:Addr) (ns:List Int),vs=[.ref a]/\aF K H a (ns.map V.int)/\ns.length≤63/\∀ (t:Addr) (H':Hp),az H H'->H t=none->uI K H' t a->Q (.ref t) H'
def A4 (K:PySem.W.Frag):Sp:=fun vs H Q _=>∃ (t s:Addr) (m:Int),vs=[.ref t,.int m]/\uI K H t s/\0 < m/\m < 1073741824/\∀ (r:Int) (xs:List V),0≤r->r < m->uI K (ax H t (.lst xs)) t s->Q (.int r) (ax H t (.lst xs))
section
set_option autoImplicit true
set_option relaxedAutoImplicit true
theorem iR  {X:Cx} {elts:List Expr} {x1} {tp p pos:Pos} {a:Expr} {ta:TA} (hg:Gl X "enumerate") (hm:X.mg "enumerate" = none) (ha:QA X [a] ta) (hs:starEach [a] X.env=[(false,eval a X.env)]:=by rfl):QI X (.Tuple elts x1 tp) (.Call (.Name "enumerate" p) [a] [] pos) (BR X.K ta):=⟨sV hg hm ha.p hs⟩
end
theorem kK:∀ {ns:List Int} {us:List Value},aR (ns.map V.int) us->IntsAre us ns
 | [],_,.nil=>.nil
 | n :: ns,_,.cons r t=>by
  obtain⟨tk,rfl⟩:=(show ∃ t,_=Value.int n t from r)
  exact .cons _ _ (kK t)
theorem jU {X:Cx} (hc:X.calm=true):cB X (.builtin "sum") (fun xs H Q=>∃ (p:Addr) (ns:List Int),xs=[.ref p]/\aF X.K H p (ns.map V.int)/\Q (.int ns.sum) H):=by
 intro pins s σ H xs us Q I r h
 obtain⟨p,ns,rfl,hq,q⟩:=h
 obtain⟨u,rfl,rx⟩:=eJ r
 cases rx
 obtain⟨its,rv,pl,hz⟩:=I.list hq
 have hi:=kK rv
 obtain⟨zs,ez⟩:=hi.allInts.items
 have hl:=pl.isList
 rw [ez] at hl
 have en:numsOf its=ns:=hi.numsOf
 rw [show its=its.toArray.toList from rfl,ez,nums_intItems] at en
 refine sum_intListG (I.ok.hd hc) hl fun h' tk t' hk=>?_
 rw [preSum_eq,List.take_of_length_le (by simp),en]
 exact⟨.int ns.sum,H,I.kept (t':=tk) hk,⟨_,rfl⟩,q⟩
section
variable {prog:Program} {w:World} {A:Around} {E:Value->Shared->Prop} {s:Shared}
end
def upTo (n:Nat):List Int:=(List.range n).map fun i:Nat=>(i:Int)
theorem mF {acc:Array Value} {n:Nat} (h:ItemsOf (fun i v=>∃ t,v=.int ((0:Int)+i * 1) t) acc n):aR ((upTo n).map V.int) acc.toList:=by
 obtain⟨hl,ha⟩:=h
 have key:∀ m,m≤n->aR ((upTo m).map V.int) (acc.toList.take m):=by
  intro m
  induction m with
  | zero=>intro _;rw [List.take_zero];exact .nil
  | succ m ih=>
   intro hm
   have hlt:m < acc.size:=by omega
   have e1:acc.toList.take (m+1)=acc.toList.take m++[acc[m]]:=by
    rw [List.take_add_one];simp [hlt]
   have e2:(upTo (m+1)).map V.int=(upTo m).map V.int++[V.int m]:=by
    unfold upTo;rw [List.range_succ];simp
   rw [e1,e2]
   refine (ih (by omega)).append (.cons ?_ .nil)
   obtain⟨t,e⟩:=ha m acc[m] (by simp [hlt])
   exact⟨t,by rw [e];simp⟩
 have:=key n (Nat.le_refl _)
 rwa [List.take_of_length_le (by simp [hl])] at this
def wO (ta:TA):TE:=fun σ H Q=>ta σ H fun vs H1=>∃ j:Int,vs=[.int j]/\∀ p,H1 p=none->Q (.ref p) (ax H1 p (.rng 0 j))
theorem vK {X:Cx} {a:Expr} {ta:TA} {p pos:Pos} (hg:Gl X "range") (hm:X.mg "range" = none) (ha:PA X [a] ta) (hs:starEach [a] X.env=[(false,eval a X.env)]:=by rfl) :
  PE X (.Call (.Name "range" p) [a] [] pos) (wO ta):=by
 intro pins s σ H Q I h
 refine Call_ (gL I hg hm boot_range (PyProof.Rows.callWith_type1 (bc (ha pos pins s σ H _ I h) fun us s1 ⟨vs,H1,I1,r1,q1⟩=>?_) hs rfl))
 obtain⟨j,e,q⟩:=q1
 subst e
 obtain⟨u,rfl,t,rfl⟩:=eJ r1
 refine call_range_1 ?_
 exact⟨.ref s1.heap.objs.size,_,I1.laid (o:=.rng 0 j) (fun b o e=>Heap.get?_push_of_some _ e) (Nat.le_refl _) ⟨_,t,_,Heap.get?_push_size _ rfl⟩,rfl,q _ (I1.hok.fresh (Nat.le_refl _))⟩
theorem u6 (n:Nat):Builtin.Range.rangeSize 0 n 1=n:=by rw [rangeSize_one];split <;> omega
def Fx (hi:Int) (n:Nat):It:=⟨fun i _=>i < n,fun i H x H'=>H'=H/\x=.int (hi - i),fun i _=>n≤i⟩
def El (ta:TA):TI:=fun σ H R=>ta σ H fun vs H1=>∃ i j:Int,vs=[.int i,.int j,.int (-1)]/\(-1000≤i/\i≤1000/\-1000≤j/\j≤1000)/\R (Fx i (i - j).toNat) H1
section
set_option autoImplicit true
set_option relaxedAutoImplicit true
theorem oF  {X:Cx} {a:Expr} {ta:TA} {p pos:Pos} (hg:Gl X "range") (hm:X.mg "range" = none) (ha:QA X [a] ta) (hs:starEach [a] X.env=[(false,eval a X.env)]:=by rfl):QE X (.Call (.Name "range" p) [a] [] pos) (wO ta):=⟨vK hg hm ha.p hs⟩
end
structure B8 (J:It) (H:Hp) (n:Nat) (P:Nat->V->Hp->Prop):Prop where
 go:∀ i H',i < n->az H H'->J.go i H'
 stop:∀ H',az H H'->J.stop n H'
 yld:∀ i H' x H'',i < n->az H H'->J.yld i H' x H''->az H' H''/\P i x H''
theorem c7 {K:PySem.W.Frag} {H:Hp} {a:Addr} {xs:List V} (h:aF K H a xs):B8 (oh K a) H xs.length (fun i x _=>xs[i]?=some x) where
 go:=fun i H' hi s=>⟨xs,_,s.seq h,List.getElem?_eq_getElem hi⟩
 stop:=fun H' s=>⟨xs,s.seq h,Nat.le_refl _⟩
 yld:=fun i H' x H'' hi s y=>by obtain⟨rfl,hy⟩:=y;exact⟨az.refl _,hy xs (s.seq h)⟩
theorem d9 {H:Hp} {lo:Int} {n:Nat}:B8 (xC lo n) H n (fun i x _=>x=.int (lo+i)) where
 go:=fun i H' hi s=>hi
 stop:=fun H' s=>Nat.le_refl _
 yld:=fun i H' x H'' hi s y=>by obtain⟨rfl,rfl⟩:=y;exact⟨az.refl _,rfl⟩
theorem j4 {K:PySem.W.Frag} {H:Hp} {a:Addr} {xs:List V} (h:aF K H a xs):B8 (As K a) H xs.length (fun i v H'=>∃ p x,v=.ref p/\xs[i]?=some x/\H' p=some (.tup [.int i,x])) where
 go:=fun i H' hi s=>⟨xs,_,s.seq h,List.getElem?_eq_getElem hi⟩
 stop:=fun H' s=>⟨xs,s.seq h,Nat.le_refl _⟩
 yld:=fun i H' x H'' hi s y=>by obtain⟨p,v,hp,rfl,rfl,hy⟩:=y;exact⟨ai hp _,p,v,rfl,hy xs (s.seq h),ae⟩
theorem bn {J:It} {H:Hp} {D:Addr} {n:Nat} {P:Nat->V->Hp->Prop} (w:B8 J H n P) (c:Nat->Bool) (f:Nat->V) {src:List (Option Nat)} {σ:L2.St} {g:TG} {tt:TT} {te:TE} {Q:Hp->Prop} (hD:H D=none) (hn:n≤1000)
  (turn:∀ (i:Nat) (x:V) (H':Hp),i < n->az H H'->P i x H'->∀ (R:VK) (E:Hp->Prop),(c i=true->∀ H'',az H' H''->R (f i) H'')->(c i=false->∀ H'',az H' H''->E H'')→
   g x (bC src σ) H' fun σ2 H2=>dM (bC src σ) σ2/\tt σ2 H2 fun ok H3=>if ok=true then te σ2 H3 R else E H3)
  (fin:∀ H',az H H'->H' D=some (.lst (((List.range n).filter c).map f))->Q H') :
  ∃ W:Nat->Nat->List V->Hp->Prop,(∃ m,W 0 m [] (ax H D (.lst [])))/\∀ i m ys H,W i m ys H->(J.stop i H/\Q H)∨(J.go i H/\∀ x H',J.yld i H x H'→
   g x (bC src σ) H' fun σ2 H2=>dM (bC src σ) σ2/\tt σ2 H2 fun ok H3=>
    if ok=true then te σ2 H3 fun y H4=>H4 D=some (.lst ys)/\ys.length < sizeLine/\∃ m',m' < m/\W (i+1) m' (ys++[y]) (ax H4 D (.lst (ys++[y]))) else ∃ m',m' < m/\W (i+1) m' ys H3):=by
 refine⟨fun i m ys H'=>i≤n/\m=n - i/\ys=((List.range i).filter c).map f/\az H H'/\H' D=some (.lst ys),⟨_,Nat.zero_le _,rfl,rfl,ai hD _,ae⟩,?_⟩
 rintro i m ys H1 ⟨hi,rfl,rfl,s1,d1⟩
 by_cases hix:i < n
 ·refine .inr ⟨w.go i H1 hix s1,fun x H2 y=>?_⟩
  obtain⟨s2,p⟩:=w.yld i H1 x H2 hix s1 y
  have d2:=s2 _ _ d1
  have len:(((List.range i).filter c).map f).length≤i:=by
   rw [List.length_map]
   exact Nat.le_trans (List.length_filter_le _ _) (by rw [List.length_range];exact Nat.le_refl _)
  refine turn i x H2 hix (s1.trans s2) p _ _ (fun hc H3 s3=>?_) fun hc H3 s3=>?_
  ·have d3:=s3 _ _ d2
   refine⟨d3,aZ (by omega),n - (i+1),by omega,hix,rfl,?_,fun b o q=>?_,ae⟩
   ·rw [List.range_succ,List.filter_append,List.map_append]
    simp [hc]
   ·rw [aj (ay q hD)]
    exact s3 _ _ (s2 _ _ (s1 _ _ q))
  ·refine⟨n - (i+1),by omega,hix,rfl,?_,(s1.trans s2).trans s3,s3 _ _ d2⟩
   rw [List.range_succ,List.filter_append,List.map_append]
   simp [hc]
 ·have e:i=n:=by omega
  subst e
  exact .inl ⟨w.stop H1 s1,fin H1 s1 d1⟩
theorem d6 {α β:Type} (d:α) (p:α->Bool) (f:α->β):∀ l:List α,((List.range l.length).filter fun i=>p (l.getD i d)).map (fun i=>f (l.getD i d))=(l.filter p).map f
 | []=>rfl
 | x :: l=>by
  have ih:=d6 d p f l
  rw [List.length_cons,List.range_succ_eq_map,List.filter_cons,List.filter_cons]
  have e:(((List.range l.length).map Nat.succ).filter fun i=>p ((x :: l).getD i d)).map (fun i=>f ((x :: l).getD i d))=(l.filter p).map f:=by
   rw [List.filter_map,List.map_map]
   exact ih
  show (if p x=true then _ else _:List Nat).map _=_
  cases hp:p x with
  | true=>
   simp only [if_true,List.map_cons]
   rw [e];rfl
  | false=>
   simp only [Bool.false_eq_true,if_false]
   exact e
theorem bg {α β:Type} (d:α) (f:α->β) (l:List α):((List.range l.length).filter fun _=>true).map (fun i=>f (l.getD i d))=l.map f:=by
 have:=d6 d (fun _=>true) f l
 rw [this,List.filter_eq_self.mpr (by intros;rfl)]
theorem aq {α:Type} {l:List α} {i:Nat} {x:α} (d:α) (h:l[i]?=some x):l.getD i d=x:=by rw [List.getD_eq_getElem?_getD,h];rfl
section
variable {prog:Program} {w:World} {A:Around} {E:Value->Shared->Prop} {s:Shared}
theorem rY {l:Addr} {items:Array Value} {k:Nat} {x:Int} {u:Tok} {Q:Value->Shared->Prop} (hl:s.heap.get? l=some { cls:=.type "list", dict:=none,data:=.seq items k,slots:=#[] })
  (hlo:-(2 ^ 63:Int)≤x) (hhi:x < 2 ^ 63) (hsz:items.size * x.toNat≤2 ^ 24)
  (h:Q (.ref s.heap.objs.size) { s with heap:=s.heap.push { cls:=.type "list", data:=.seq (List.foldl (fun x1 x2=>x1++x2) #[] (List.replicate (if items.isEmpty=true then 0 else x.toNat) items)) } }) :
  wpAny (model prog w) A (binaryOp .Mult (.ref l) (.int x u)) Q E s:=
 wpAny_binaryOp_repeat_ref (T := "list") (U := "int") (by decide) ⟨_,hl,rfl⟩ (fun s'=>typeIs_int s' x u) noFill_list_mul F.fills_int_mul F.slot_int_rmul repeat_list F.slot_int_index.lookup
  (call_meets F.slot_int_rmul (typeIs_int s x u) F.entry_int_rmul (F.args_int_rmul_2 _ _) (int___rmul___int_list x u l items k)
   ⟨hl,rfl,⟨_,hl,rfl⟩,call_meets F.slot_list_mul ⟨_,hl,rfl⟩ F.entry_list_mul (F.args_list_mul_2 _ _)
    (AutoListH.list___mul___list_int_3 l items k x u (by simp [Builtin.List.listFitsIndex];omega) (by omega) (by simp [Builtin.List.listTooLong,sizeLine];omega))
    ⟨hl,h⟩⟩)
end
theorem l9 (u:Value):∀ (n:Nat) (acc:Array Value),(List.foldl (fun x1 x2=>x1++x2) acc (List.replicate n #[u])).toList=acc.toList++List.replicate n u
 | 0,acc=>by simp
 | n+1,acc=>by
  rw [List.replicate_succ,List.foldl_cons,l9 u n,List.replicate_succ]
  simp
theorem lA {v:V} {u:Value} (r:aO v u):∀ n:Nat,aR (List.replicate n v) (List.replicate n u)
 | 0=>.nil
 | n+1=>.cons r (lA r n)
theorem kB {X:Cx}:eI X (binaryOp .Mult) (fun x y H Q=>∃ (p:Addr) (v:V) (n:Nat),x=.ref p/\y=.int n/\H p=some (.lst [v])/\n≤1000/\∀ l,H l=none->Q (.ref l) (ax H l (.lst (List.replicate n v)))):=by
 intro pins s σ H x y xv yv Q I rx ry h
 obtain⟨p,v,n,rfl,rfl,hp,hn,q⟩:=h
 cases (show xv=Value.ref p from rx)
 obtain⟨t,rfl⟩:=(show ∃ t,yv=Value.int n t from ry)
 obtain⟨_,its,c,rv,e⟩:=(show bf X.prog X.w H s.heap p (.lst [v]) from I.hok p _ hp)
 cases rv with
 | @cons _ u _ _ r0 rr=>
 cases rr
 refine rY e (by omega) (by omega) (by simp;omega) ?_
 have el:(List.foldl (fun x1 x2=>x1++x2) #[] (List.replicate (if ([u]:List Value).toArray.isEmpty=true then 0 else (n:Int).toNat) [u].toArray))=(List.replicate n u).toArray:=by
  apply Array.ext'
  have:=l9 u n #[]
  simpa using this
 rw [el]
 have I2:Inv X pins σ (ax H s.heap.objs.size (.lst (List.replicate n v))) { s with heap:=s.heap.push { cls:=.type "list", data:=.seq (List.replicate n u).toArray } }:=
  I.laid (t':=s.toks) (fun b o e=>Heap.get?_push_of_some _ e) (Nat.le_refl _) (show bf X.prog X.w _ _ _ (.lst (List.replicate n v)) from ⟨by rw [List.length_replicate,sizeLine_eq];omega,List.replicate n u,_,lA r0 n,Heap.get?_push_size _ rfl⟩)
 exact⟨.ref s.heap.objs.size,_,I2,rfl,q _ (I.hok.fresh (Nat.le_refl _))⟩
theorem jd {X:Cx} (hc:X.calm=true):cB X (.type "list") (fun xs H Q=>∃ p,∃ n:Nat,xs=[.ref p]/\H p=some (.rng 0 n)/\n≤1000/\∀ l,H l=none->Q (.ref l) (ax H l (.lst ((upTo n).map V.int)))):=by
 intro pins s σ H xs us Q I r h
 obtain⟨p,n,rfl,hp,hn,q⟩:=h
 obtain⟨u,rfl,rx⟩:=eJ r
 cases rx
 obtain⟨t,u,w,e⟩:=(show bf X.prog X.w H s.heap p (.rng 0 n) from I.hok p _ hp)
 refine call_list_range (I.ok.hd hc) (show IsRange s.heap p 0 n 1 t u w from e) (small_one (by omega) (by omega) (by omega) (by omega)) (u6 n) (by omega) fun h' tk acc c' hk hS hi=>?_
 have rv:=mF hi
 have hl:(upTo n).length=n:=by unfold upTo;simp
 have I2:Inv X pins σ (ax H s.heap.objs.size (.lst ((upTo n).map V.int))) { s with heap:=h',toks:=tk }:=
  I.laid (t':=tk) hk (Nat.le_refl _) (show bf X.prog X.w _ _ _ (.lst ((upTo n).map V.int)) from ⟨by rw [List.length_map,hl,sizeLine_eq];omega,acc.toList,c',rv,by simpa using hS⟩)
 exact⟨.ref s.heap.objs.size,_,I2,rfl,q _ (I.hok.fresh (Nat.le_refl _))⟩
theorem js {X:Cx} {K:PySem.W.Frag} (hK:X.K=K):eI X (compareOp .NotIn) (D9 K true):=hK ▸ kC
theorem v9 (t:Nat) (ls:List Nat):BP (.int t) (ls.map fun n:Nat=>V.int n)=ls.contains t:=by
 unfold BP
 rw [List.any_map]
 induction ls with
 | nil=>rfl
 | cons a r ih=>
  rw [List.any_cons,List.contains_cons,ih]
  congr 1
  show decide (((a:Nat):Int)=(t:Nat))=(t == a)
  by_cases h:t=a
  ·subst h;simp
  ·rw [beq_eq_false_iff_ne.mpr h]
   exact decide_eq_false (by omega)
def wM (ds:List PyData):Prop:=∀ e∈ds,e.canLay0=true/\e.depth≤32
def Fd (K:PySem.W.Frag):R2:=fun x y H Q=>∃ p xs ds d,y=.ref p/\aF K H p xs/\bb K H xs ds/\wM ds/\cb K H x d/\d.canLay0=true/\PyData.eqv d d=true/\Q (.bl (ds.any fun e=>PyData.eqv e d)) H
def Cy (K:PySem.W.Frag):R2:=fun x y H Q=>∃ p xs ds d,y=.ref p/\aF K H p xs/\bb K H xs ds/\wM ds/\cb K H x d/\d.canLay0=true/\PyData.eqv d d=true/\Q (.bl (!ds.any fun e=>PyData.eqv e d)) H
def D8 (K:PySem.W.Frag):R2:=fun x y H Q=>∃ p xs ds d,y=.ref p/\bS K H p xs/\bb K H xs ds/\wM ds/\cb K H x d/\d.canLay0=true/\PyData.eqv d d=true/\Q (.bl (ds.any fun e=>PyData.eqv e d)) H
def CB (K:PySem.W.Frag):V->List V->Hp->VK->Prop:=fun x vs H Q=>∃ p xs ds w d,x=.ref p/\vs=[w]/\aF K H p xs/\bb K H xs ds/\wM ds/\cb K H w d/\d.canLay0=true/\PyData.eqv d d=true/\(∃ e∈ds,PyData.eqv e d=true)∧
 ∀ (j:Nat) (e:PyData),ds[j]?=some e->PyData.eqv e d=true->(∀ m f,m < j->ds[m]?=some f->PyData.eqv f d=false)->Q (.int j) H
def Cz:V->List V->Hp->VK->Prop:=fun x vs H Q=>∃ (l:Addr) (xs:List V) (j:Nat) (y:V),x=.ref l/\vs=[.int j,y]/\H l=some (.lst xs)/\j≤xs.length/\xs.length < sizeLine/\Q .non (ax H l (.lst (xs.take j++y :: xs.drop j)))
mutual
def Ek:PyData->Bool
 | .int i=>decide (i.natAbs < 2 ^ 230)
 | .tuple ds=>nM ds
 | .list ds=>nM ds
 | .dict _=>false
 | _=>true
def nM:List PyData->Bool
 | []=>true
 | d :: ds=>Ek d && nM ds
end
theorem gM:∀ {ds:List PyData},(∀ d∈ds,d.canLay0=true)->PyData.canLayAll0 ds=true
 | [],_=>rfl
 | d :: ds,h=>by
  show (d.canLay0 && PyData.canLayAll0 ds)=true
  rw [h d List.mem_cons_self,gM fun e he=>h e (List.mem_cons_of_mem _ he)];rfl
structure Gd (k n:Nat) (d:PyData):Prop where
 sh:Sh k n d
 lay:d.canLay0=true
 bd:Ek d=true
def B3:PyData->R
 | .tuple [.int a,.int b]=>(a,b)
 | _=>(0,1)
def Dn:PyData->R×R
 | .tuple [x,y]=>(B3 x,B3 y)
 | _=>m6
end B
namespace B
open PySem PySem.Spec L2 PyProof.Rows
theorem qh {X:Cx} (hc:X.calm=true):cB X (.builtin "min") (fun xs H Q=>∃ (p:Addr) (ns:List Int),xs=[.ref p]/\aF X.K H p (ns.map V.int)/\0 < ns.length/\∀ M,M∈ns->(∀ a∈ns,M≤a)->Q (.int M) H):=by
 intro pins s σ H xs us Q I r h
 obtain⟨p,ns,rfl,hq,hne,q⟩:=h
 obtain⟨u,rfl,rx⟩:=eJ r
 cases rx
 obtain⟨its,rv,pl,hz⟩:=I.list hq
 have hi:=kK rv
 obtain⟨zs,ez⟩:=hi.allInts.items
 have hl:=pl.isList
 rw [ez] at hl
 have en:numsOf its=ns:=hi.numsOf
 rw [show its=its.toArray.toList from rfl,ez,nums_intItems] at en
 have hlen:zs.size=ns.length:=by rw [← en,List.length_map,Array.length_toList]
 refine min_intList (I.ok.hd hc) hl (by omega) fun v h' tk hv hk=>?_
 obtain⟨t,rfl⟩:=intItems_at hv
 obtain⟨h1,h2⟩:=argBest_lt (numAt zs) (zs.size - 1)
 refine⟨.int _,H,I.kept (t':=tk) hk,⟨_,rfl⟩,q _ ?_ fun a ha=>?_⟩
 ·rw [numAt_eq,en];exact getD_mem (by omega)
 ·rw [← en] at ha
  obtain⟨j,hj,rfl⟩:=mem_getD ha
  rw [List.length_map,Array.length_toList] at hj
  rw [← numAt_eq];exact h2 j (by omega)
theorem mi {J:It} {H:Hp} {D:Addr} {n:Nat} (Pv:Nat->List V->Hp->Prop) {src:List (Option Nat)} {σ:L2.St} {g:TG} {tt:TT} {te:TE} {Q:Hp->Prop} (h0:Pv 0 [] (ax H D (.lst [])))
  (go:∀ i ys H',i < n->Pv i ys H'->J.go i H') (stop:∀ ys H',Pv n ys H'->J.stop n H'/\Q H')
  (turn:∀ i ys H' x H'',i < n->Pv i ys H'->J.yld i H' x H''->∀ (R:VK) (E:Hp->Prop),(∀ y H4,H4 D=some (.lst ys)->ys.length < sizeLine->Pv (i+1) (ys++[y]) (ax H4 D (.lst (ys++[y])))->R y H4)->(∀ H3,Pv (i+1) ys H3->E H3)→
   g x (bC src σ) H'' fun σ2 H2=>dM (bC src σ) σ2/\tt σ2 H2 fun ok H3=>if ok=true then te σ2 H3 R else E H3) :
  ∃ W:Nat->Nat->List V->Hp->Prop,(∃ m,W 0 m [] (ax H D (.lst [])))/\∀ i m ys H,W i m ys H->(J.stop i H/\Q H)∨(J.go i H/\∀ x H',J.yld i H x H'→
   g x (bC src σ) H' fun σ2 H2=>dM (bC src σ) σ2/\tt σ2 H2 fun ok H3=>
    if ok=true then te σ2 H3 fun y H4=>H4 D=some (.lst ys)/\ys.length < sizeLine/\∃ m',m' < m/\W (i+1) m' (ys++[y]) (ax H4 D (.lst (ys++[y]))) else ∃ m',m' < m/\W (i+1) m' ys H3):=by
 refine⟨fun i m ys H'=>i≤n/\m=n - i/\Pv i ys H',⟨_,Nat.zero_le _,rfl,h0⟩,?_⟩
 rintro i m ys H1 ⟨hi,rfl,p⟩
 by_cases hix:i < n
 ·refine .inr ⟨go i ys H1 hix p,fun x H2 y=>?_⟩
  refine turn i ys H1 x H2 hix p y _ _ (fun y H4 a b c=>⟨a,b,n - (i+1),by omega,hix,rfl,c⟩) fun H3 c=>⟨n - (i+1),by omega,hix,rfl,c⟩
 ·have e:i=n:=by omega
  subst e
  exact .inl (stop ys H1 p)
def CU (t:TS):TS:=fun D σ H=>∃ M:L2.St->Hp->Prop,t { D with nx:=M } σ H/\∀ σ' H',M σ' H'->D.nx σ' H'
theorem iQ {X:Cx} {st:Stmt} {t:TS} (h:QS X st t):QS X st (CU t):=⟨by
 intro pins s σ H D I q
 obtain⟨M,q,k⟩:=q
 refine bc (h.p pins s σ H _ I q) fun f s' z=>?_
 cases f with
 | next=>obtain⟨σ',H',I',m⟩:=z;exact⟨σ',H',I',k _ _ m⟩
 | brk=>exact z
 | cont=>exact z
 | ret u=>exact z⟩
end B
namespace B
abbrev Ln:=Nat×Nat
inductive wK (es:List Ln):Nat->Nat->Prop where
 | one {a b:Nat} (h:(a,b)∈es):wK es a b
 | step {a b c:Nat} (h:(a,b)∈es) (t:wK es b c):wK es a c
def FC (n:Nat) (es:List Ln):Prop:=∀ e∈es,e.1 < n/\e.2 < n
def F2 (n:Nat) (es:List Ln) (L:Nat->Nat->Bool):Prop:=∀ i j,i < n->j < n->(L i j=true↔wK es j i)
def Fm (L:Nat->Nat->Bool) (a b:Nat):Nat->Nat->Bool:=fun i j=>L i j || ((decide (i=b) || L i b) && (decide (j=a) || L a j))
structure Rx (n:Nat) (es:List Ln) (v:Nat->Int) (ps:Nat->Nat) (r k:Nat) (F:Nat->Int):Prop where
 bas:∀ i,i < n->v i≤F i
 att:∀ i,i < n->∃ j,j < n/\(j=i∨wK es j i)/\F i=v j
 don:∀ i,i < n->ps i < r->∀ j,j < n->(j=i∨wK es j i)->v j≤F i
 cur:∀ m a b,m < k->es[m]?=some (a,b)->ps b≤r->∀ j,j < n->(j=a∨wK es j a)->v j≤F b
def E2 (F:Nat->Int) (a b:Nat):Nat->Int:=fun i=>if i=b then max (F b) (F a) else F i
structure FX (n:Nat) (es:List Ln) (v:Nat->Int) (F:Nat->Int):Prop where
 up:∀ i j,i < n->j < n->(j=i∨wK es j i)->v j≤F i
 att:∀ i,i < n->∃ j,j < n/\(j=i∨wK es j i)/\F i=v j
def FN (es:List Ln):List Ln:=es.map fun e=>(e.2,e.1)
end B
namespace B
open PySem PySem.Spec L2 PyProof.Rows
def Cm (r r' r'':R2) (ta tb tc td:TE):TE:=fun σ H Q=>ta σ H fun x H1=>tb σ H1 fun y H2=>r x y H2 fun z H3=>∃ k,z=.bl k∧
 (if k=true then tc σ H3 fun w' H4=>r' y w' H4 fun z' H5=>∃ k',z'=.bl k'/\(if k'=true then td σ H5 fun u' H6=>r'' w' u' H6 Q else Q (.bl false) H5) else Q (.bl false) H3)
theorem dW:fillsNumberSlot (.type "tuple") "mul" = pure false:=
 PySem.fillsNumberSlot_seq (id := "tuple.__mul__") (r:=some (.builtin "tuple.__rmul__")) F.slot_tuple_mul.lookup (by decide +kernel) F.slot_tuple_rmul.lookup (by decide +kernel)
theorem gi:seqRepeat? (.type "tuple")=pure (some (.builtin "tuple.__mul__")):=by
 unfold seqRepeat?
 rw [PySem.seqSlot_of (T := "tuple") (name := "__mul__") (id := "tuple.__mul__") F.slot_tuple_mul.lookup (by decide +kernel),PySem.seqSlot_of (T := "tuple") (name := "__rmul__") (id := "tuple.__rmul__") F.slot_tuple_rmul.lookup (by decide +kernel)]
 rfl
theorem eX (a:Int) (t:Tok) (l:Addr) (items:Array Value) (n:Nat) (dd:Option Addr) (sl:Array (Option Value)) :
  Meets (Builtin.«int.__rmul__» ⟨[.int a t,.ref l],[]⟩) (fun _ R s=>s.heap.get? l=some { cls:=.type "tuple", dict:=dd,data:=.seq items n,slots:=sl }/\R (.ok (.ret Value.notImplemented)) s):=
 .of_wp fun prog w A R s h=>by obtain⟨hp,g,d,tk,os⟩:=s;obtain⟨hl,h⟩:=h;wp_walk;exact⟨_,rfl,h⟩
theorem mJ (l:Addr) (items:Array Value) (n:Nat) (dd:Option Addr) (sl:Array (Option Value)) (x:Int) (u:Tok) (hc0:¬(decide (x < -(2 ^ 63)) || decide (x ≥ 2 ^ 63))=true) (hc1:¬(items.isEmpty || x == 1)=true) (hc2:¬(decide (x≤0) || items.isEmpty)=true) (hc3:¬(items.size:Int) * x > (2 ^ 63 - 1) / 8) (hc4:¬Builtin.Tuple.tupleTooMany (items.size * x)=true) (hsz:(List.foldl (fun x1 x2=>x1++x2) #[] (List.replicate x.toNat items)).size≤sizeLine) :
  Meets (Builtin.«tuple.__mul__» ⟨[.ref l,.int x u],[]⟩) (fun _ R s=>s.heap.get? l=some { cls:=.type "tuple", dict:=dd,data:=.seq items n,slots:=sl }/\R (.ok (.ret (Value.ref s.heap.objs.size))) { s with heap:=s.heap.push { cls:=Value.type "tuple", data:=Data.seq (List.foldl (fun x1 x2=>x1++x2) #[] (List.replicate x.toNat items)) },toks:=s.toks }):=
 .of_wp fun prog w A R s h=>by
  obtain⟨hp,g,d,tk,os⟩:=s;obtain⟨hl,h⟩:=h
  have f1:=AutoSeq1.idx_int;have f2:=AutoSeq1.sub_tuple_tuple;have f3:=AutoSeq1.sub_list_list;have f4:=AutoSeq1.sub_tuple_list;have f5:=AutoSeq1.sub_list_tuple
  wp_walk using wpAny_loadPart' hl
  refine wpAny_ite_false (decide_eq_false hc0) ?_
  wp_walk using wpAny_loadPart' hl
  refine wpAny_ite_false (decide_eq_false hc3) ?_
  wp_walk using wpAny_loadPart' hl
  exact⟨_,rfl,h⟩
theorem wz {xs:List V} {n:Nat}:eP xs none (some (n:Int))=xs.take n:=by
 by_cases h:n≤xs.length
 ·exact Ae h
 ·unfold eP
  rw [HT.sIx_nat,HT.sIx_none,Nat.sub_zero,List.drop_zero,Nat.min_eq_right (by omega),List.take_of_length_le (Nat.le_refl _),List.take_of_length_le (by omega)]
section
variable {prog:Program} {w:World} {A:Around} {E:Value->Shared->Prop} {s:Shared}
end
def ES (K:PySem.W.Frag) (te:TE):TE:=fun σ H Q=>te σ H fun x H1=>∃ a xs,x=.ref a/\bS K H1 a xs/\∀ p,H1 p=none->Q (.ref p) (ax H1 p (.tup xs.reverse))
end B
namespace B
end B
namespace B
open PySem PySem.Spec L2 PyProof.Rows
def FY (zs:List R):Prop:=zs.Pairwise fun a b=>iZ a b=true
end B
namespace L2
open PySem PySem.Spec PyProof.Rows
structure Cc (k:Nat) (A:Around):Prop where
 dp:A.depth+3 * k+5 < recursionLimit
 un:A.units+16 * k+200 < cLine
 gd:A.guards=some []
structure EC (P:Program) (w:World) (K:PySem.W.Frag) (mg:Str->Option Value) (base:Heap) (CX:mD) (k:Nat) (f:Addr) (fd:FuncData) (ps:List Str) (sp:Sp):Prop where
 len:∀ vs H Q E,sp vs H Q E->vs.length=ps.length
 run:∀ (A:Around) (outer:List Env) (s:Shared) (H:Hp) (args:Args) (us:List Value) (vs:List V) (Q:VK) (E:XK),Cc k A->mB P w K mg base A outer s H->BindsTo s fd args (ps.zip us)->aR vs us->sp vs H Q E→
  codeAny (model P w) A (.call (.ref f) args) (CR CX outer P w H s Q E) s
def FU (CX:mD) (P:Program) (w:World) (K:PySem.W.Frag) (mg:Str->Option Value) (base:Heap) (N:List Str) (qual:Str) (scope:Scope) (f:Addr) (cd:Value) (A:Around) (outer:List Env) (s:Shared) (H:Hp) (E:XK):Cx:={ bO CX P w K mg base N qual scope f cd A outer s H E with calm:=false }
section
variable {X:Cx} {CX:mD} {k:Nat} {f C:Addr} {fd:FuncData} {ps:List Str} {sp:Sp} {dvs:List V} {ds:List Value} {E:XK} {x m:Str} {p pos apos:Pos} {e o:Expr} {es:List Expr} {ta:TE} {t:TA}
end
section
variable {P:Program} {w:World} {K:PySem.W.Frag} {mg:Str->Option Value} {base:Heap}
end
end L2
namespace B
open PySem PySem.Spec L2 PyProof.Rows
section
set_option autoImplicit true
set_option relaxedAutoImplicit true
end
def Cj (d:Addr) (ob:Obj) (kvs:List (bR×V)):It:=
 ⟨fun i H=>H d=some (.frz ob (.dK kvs))/\i < kvs.length,
  fun i H x H'=>∃ p k v,H p=none/\x=.ref p/\kvs[i]?=some (k,v)/\H'=ax H p (.tup [kV k,v]),
  fun i H=>H d=some (.frz ob (.dK kvs))/\kvs.length≤i⟩
theorem KV.get:∀ {kvs:List (bR×V)} {vs:List (bR×Value)},KV kvs vs->∀ {i:Nat} {k:bR} {v:V},kvs[i]?=some (k,v)->∃ u,vs[i]?=some (k,u)/\aO v u
 | _,_,.nil,i,k,v,h=>by simp at h
 | (a,b) :: r,(c,d) :: t,.cons h z,0,k,v,e=>by
  have e':(a,b)=(k,v):=by simpa using e
  cases e'
  obtain⟨h1,h2⟩:=h
  have h1':a=c:=h1
  subst h1'
  exact⟨d,rfl,h2⟩
 | _ :: r,_ :: t,.cons h z,i+1,k,v,e=>by
  obtain⟨u,q,w⟩:=KV.get z (i:=i) (by simpa using e)
  exact⟨u,by simpa using q,w⟩
theorem xn {k:bR} {u:Value} (h:i3 k u=true):aO (kV k) u:=by
 rcases bv h with ⟨i,t,rfl,rfl⟩ | ⟨x,t,rfl,rfl⟩
 ·exact⟨t,rfl⟩
 ·exact⟨t,rfl⟩
theorem z9:entryFor table "dict_itemiterator.__iter__" = some Builtin.«dict_keyiterator.__iter__»:=
 entryFor_alias (by kernel_rfl) (by first | rfl | decide +kernel | (unfold String.splitOn;simp +decide [String.splitOnAux])) (by decide +kernel) (by kernel_rfl) (id' := "dict_keyiterator.__iter__")
theorem mI {P:Program} {w:World} {K:PySem.W.Frag} {elts:List Expr} {x1} {pos:Pos} {it d:Addr} {ob:Obj} {kvs:List (bR×V)} {es:Array DictEntry} {ep:Nat} (hob:ob.data=.dict es ep) :
  nW P w K (.Tuple elts x1 pos) (Cj d ob kvs) [it] it (fun i h=>∃ ok ov,IsItemIter h it d i kvs.length ep ok ov) where
 mem:=by simp
 obj:=fun i h st c hc=>by
  obtain⟨ok,ov,e⟩:=st
  rw [List.mem_singleton] at hc
  subst hc
  exact⟨_,e,fun v q=>by cases (show Data.fields _=Data.cell v from q)⟩
 keep:=fun i h h' ⟨ok,ov,e⟩ k=>⟨ok,ov,k it (by simp) _ e⟩
 item:=by
  intro X hP hw hK hc i pins s σ H E I hf st hg
  subst hP hw hK
  obtain⟨hd,hi⟩:=hg
  obtain⟨ok,ov,e⟩:=st
  obtain⟨q0,z,hds,vs,rel,o,es',ep',d1,d2,d3,d4⟩:=(show bf X.prog X.w H s.heap d (.frz ob (.dK kvs)) from I.hok d _ hd)
  have eo:o=ob:=Option.some.inj (d1.symm.trans q0)
  subst eo
  rw [hob] at d3
  cases d3
  have dat:s.heap.DictAt (ba X.prog X.w) d vs ep:=⟨o,es,d1,d2,hob,d4⟩
  obtain⟨k,v,hkv'⟩:∃ k v,kvs[i]?=some (k,v):=⟨(kvs[i]'hi).1,(kvs[i]'hi).2,List.getElem?_eq_getElem hi⟩
  obtain⟨u,hu,ru⟩:=KV.get rel hkv'
  have ndi:it≠d:=fun q=>by rw [q] at hf;have:=(hf d (by simp)).1;rw [hd] at this;cases this
  have itl:it < s.heap.objs.size:=Heap.lt_size e
  rw [rel.length] at e
  refine wpAny_pyNext_items_item e dat hu fun key h1 hkey eo tup hz hk=>⟨_,rfl,wpAny_letOwnedTupleGo_items eo fun h2 e2 sb=>?_⟩
  have nt:s.heap.objs.size≠it:=Nat.ne_of_gt itl
  have P:bf X.prog X.w (ax H s.heap.objs.size (.tup [kV k,v])) h2 s.heap.objs.size (.tup [kV k,v]):=
   ⟨by show 2≤sizeLine;decide,[key,u],.cons (xn hkey) (.cons ru .nil),⟨_,sb.extBut _ _ nt tup,rfl,_,rfl⟩⟩
  have I2:Inv X pins σ (ax H s.heap.objs.size (.tup [kV k,v])) { s with heap:=h2,toks:=s.toks }:=ot I (fun c o' n q=>by
   have n':c≠it:=fun r=>n (by simp [r])
   exact sb.extBut _ _ n' (hk c o' n' q)) hf (Nat.le_refl _) P
  refine⟨.ref s.heap.objs.size,_,I2,rfl,⟨_,k,v,I.fresh,rfl,hkv',rfl⟩,⟨key,u,by rw [rel.length];exact e2⟩,fun c hc=>?_⟩
  have hc':c=it:=by simpa using hc
  rw [hc',aj (Ne.symm nt)]
  exact (hf it (by simp)).1
 done:=by
  intro X hP hw hK hc i pins s σ H E I hf st hg
  subst hP hw hK
  obtain⟨hd,hi⟩:=hg
  obtain⟨ok,ov,e⟩:=st
  obtain⟨q0,z,hds,vs,rel,o,es',ep',d1,d2,d3,d4⟩:=(show bf X.prog X.w H s.heap d (.frz ob (.dK kvs)) from I.hok d _ hd)
  have eo:o=ob:=Option.some.inj (d1.symm.trans q0)
  subst eo
  rw [hob] at d3
  cases d3
  have dat:s.heap.DictAt (ba X.prog X.w) d vs ep:=⟨o,es,d1,d2,hob,d4⟩
  have hh:X.A.in1.handled=none:=I.ok.hd hc
  rw [rel.length] at e hi
  refine wpAny_pyNext_items_end hh e dat (List.getElem?_eq_none hi) fun h1 ex=>⟨rfl,?_⟩
  exact ou (t':=s.toks) I (fun c o' n q=>ex c o' (fun r=>n (by simp [r])) q) hf
 self:=fun A i s Q E st h=>by
  obtain⟨ok,ov,e⟩:=st
  have hT:s.TypeIs (.ref it) "dict_itemiterator" := ⟨_,e,rfl⟩
  refine wpAny_pyIter_slot hT PySem.F.slot_dict_itemiterator_iter (wpAny_call_entry PySem.F.slot_dict_itemiterator_iter hT z9 ?_ (PySem.F.args_dict_itemiterator_iter_1 _))
  show wpAny _ _ (ret (.ref it)) _ _ s
  exact wpAny_pure ⟨_,rfl, "dict_itemiterator", _,hT,PySem.F.slot_dict_itemiterator_next.lookup,h⟩
def ub (td:TE):TI:=fun σ H R=>td σ H fun x H1=>∃ d kvs,x=.ref d/\H1 d=some (.dK kvs)/\∀ ob,R (Cj d ob kvs) (ax H1 d (.frz ob (.dK kvs)))
theorem sU {X:Cx} {elts:List Expr} {x1} {tp apos pos:Pos} {o:Expr} {td:TE} (ho:PE X o td) (hb:attributeBase o "items" X.env (eval o X.env)=eval o X.env:=by rfl) (hl:(apos.endLine == pos.line)=true:=by rfl) :
  PI X (.Tuple elts x1 tp) (.Call (.Attribute o "items" apos) [] [] pos) (ub td):=by
 intro pins s σ H R I h
 refine wpAny_Call_method (T := "dict") (id := "dict.items") hb rfl hl PySem.F.plainAttrs_dict PySem.F.slot_dict_items PySem.F.type_dict_items (bc (ho pins s σ H _ I h) fun u s1 ⟨x,H1,I1,rx,d,kvs,ex,e,q⟩=>?_)
 subst ex
 obtain rfl:u=Value.ref d:=rx
 obtain⟨z,hds,vs,rel,dd⟩:=uv I1.hok e
 obtain⟨t1,t2,_⟩:=t8 I1 (.inl ⟨kvs,.inl e⟩)
 refine⟨t1,t2,?_⟩
 show wpAny _ _ (callWith pos (.builtin "dict.items") [.ref d] [] []) _ _ _
 refine method_meetsIn PySem.F.slot_dict_items PySem.F.entry_dict_items rfl (PySem.evalArgs_none ⟨rfl,t1,PySem.F.args_dict_items_1 _,_,meets_dict_items (ba X.prog X.w) d hds,⟨vs,dd⟩,?_⟩)
 obtain⟨o',es,ep,d1,d2,d3,d4⟩:=id dd
 have dat:s1.heap.DictAt (ba X.prog X.w) d vs ep:=⟨o',es,d1,d2,d3,d4⟩
 refine wpAny_pyIter_items (d:=d) (kvs:=vs) (ep:=ep) ⟨_,Heap.get?_push_size _ rfl,rfl,rfl⟩ (dat.push _) ?_
 have sz:(s1.heap.push { cls:=.type "dict_items", data:=.fields #[.ref d] }).objs.size=s1.heap.objs.size+1:=Heap.size_push ..
 have I2:=I1.kept (t':=s1.toks) (h':=(s1.heap.push { cls:=.type "dict_items", data:=.fields #[.ref d] }).push { cls:=.type "dict_itemiterator", data:=.fields #[.none,.bool false,.ref d,.int 0 0,.int vs.length 0,.int ep 0,.none,.none] }) fun b o q=>Heap.get?_push_of_some _ (Heap.get?_push_of_some _ q)
 have hit:=Heap.get?_push_size (s1.heap.push { cls:=.type "dict_items", data:=.fields #[.ref d] }) (o:={ cls:=.type "dict_itemiterator", data:=.fields #[.none,.bool false,.ref d,.int 0 0,.int vs.length 0,.int ep 0,.none,.none] }) rfl
 have dl:d < s1.heap.objs.size:=Heap.lt_size d1
 have k2:∀ b o,s1.heap.get? b=some o->((s1.heap.push { cls:=.type "dict_items", data:=.fields #[.ref d] }).push { cls:=.type "dict_itemiterator", data:=.fields #[.none,.bool false,.ref d,.int 0 0,.int vs.length 0,.int ep 0,.none,.none] }).get? b=some o:=fun b o q=>Heap.get?_push_of_some _ (Heap.get?_push_of_some _ q)
 generalize (s1.heap.push { cls:=.type "dict_items", data:=.fields #[.ref d] }).push { cls:=.type "dict_itemiterator", data:=.fields #[.none,.bool false,.ref d,.int 0 0,.int vs.length 0,.int ep 0,.none,.none] }=hE at I2 hit k2 ⊢
 rw [sz] at hit ⊢
 have I3:=iz (h':=hE) (t':=s1.toks) (ob:=.frz o' (.dK kvs)) I2 (by rw [e];exact True.intro) ⟨rfl,fun _ _=>rfl⟩ ⟨_,k2 _ _ d1⟩ ⟨k2 _ _ d1,z,hds,vs,rel,o',es,ep,k2 _ _ d1,d2,d3,d4⟩
 have nd:s1.heap.objs.size+1≠d:=Nat.ne_of_gt (Nat.lt_succ_of_lt dl)
 refine⟨_,[s1.heap.objs.size+1],_,_,_,rfl,I3,mI d3,⟨.none,.none,by rw [rel.length];exact hit⟩,fun c hc=>?_,q o'⟩
 have hc':c=s1.heap.objs.size+1:=by simpa using hc
 subst hc'
 exact I1.fpOk (Nat.le_succ _) (by rw [aj nd];exact I1.hok.fresh (Nat.le_succ _))
theorem jQ {d:Addr} {ob:Obj} {kvs:List (bR×V)} {g:TG} {tb:TS} {D:im} {σ:L2.St} {H:Hp} (Pv:Nat->L2.St->Hp->Prop) (h0:Pv 0 σ H)
  (hl:∀ i σ H,Pv i σ H->H d=some (.frz ob (.dK kvs)))
  (hs:∀ i k v p σ H,kvs[i]?=some (k,v)->Pv i σ H->H p=none->g (.ref p) σ (ax H p (.tup [kV k,v])) fun σ2 H2=>tb { D with nx:=Pv (i+1),ct:=Pv (i+1),bk:=D.nx } σ2 H2) (hd:∀ σ H,Pv kvs.length σ H->D.nx σ H) :
  ∃ W:Nat->Nat->L2.St->Hp->Prop,(∃ m,W 0 m σ H)/\∀ i m σ H,W i m σ H→
   ((Cj d ob kvs).stop i H/\D.nx σ H)∨((Cj d ob kvs).go i H/\∃ N:L2.St->Hp->Prop,(∀ σ' H',N σ' H'->∃ m',m' < m/\W (i+1) m' σ' H')/\∀ x H',(Cj d ob kvs).yld i H x H'->g x σ H' fun σ2 H2=>tb { D with nx:=N,ct:=N,bk:=D.nx } σ2 H2):=by
 refine⟨fun i m σ H=>m=kvs.length - i/\i≤kvs.length/\Pv i σ H,⟨_,rfl,Nat.zero_le _,h0⟩,?_⟩
 rintro i m σ H ⟨rfl,hi,p⟩
 have q:=hl i σ H p
 by_cases hlt:i < kvs.length
 ·refine .inr ⟨⟨q,hlt⟩,Pv (i+1),fun σ' H' p'=>⟨kvs.length - (i+1),by omega,rfl,hlt,p'⟩,fun x H' y=>?_⟩
  obtain⟨pp,k,v,hp,rfl,hkv,rfl⟩:=y
  exact hs i k v pp σ _ hkv p hp
 ·have e:i=kvs.length:=by omega
  subst e
  exact .inl ⟨⟨q,Nat.le_refl _⟩,hd σ H p⟩
def jv (ps:List (Int×Int)):List (bR×V):=ps.map fun p=>(Sum.inl p.1,V.int p.2)
def mM:List (Int×Int)->Int->Int
 | [],_=>0
 | (c,u) :: r,b=>if c=b then u else mM r b
def dJ:List (Int×Int)->Int->Int->List (Int×Int)
 | [],b,t=>[(b,0+t)]
 | (c,u) :: r,b,t=>if c=b then (c,u+t) :: r else (c,u) :: dJ r b t
theorem sy {p:bR×V} {r:List (bR×V)} {k:bR} {v:V} (e:p.1=k) (n:∀ q∈r,q.1≠k):db (p :: r) k v=(k,v) :: r:=by
 unfold db
 rw [if_pos (by simp [e]),List.map_cons,if_pos e,e]
 congr 1
 exact (List.map_congr_left (g:=id) (fun q hq=>by rw [if_neg (n q hq)];rfl)).trans (List.map_id r)
theorem pO {p:bR×V} {r:List (bR×V)} {k:bR} {v:V} (e:¬ p.1=k):db (p :: r) k v=p :: db r k v:=by
 unfold db
 rw [List.any_cons,decide_eq_false e,Bool.false_or]
 split
 ·rw [List.map_cons,if_neg e]
 ·rfl
theorem kN:∀ (ps:List (Int×Int)) (b:Int),(cY (jv ps) (Sum.inl b)).getD (V.int 0)=V.int (mM ps b)
 | [],b=>rfl
 | (c,u) :: r,b=>by
  show (cY ((Sum.inl c,V.int u) :: jv r) (Sum.inl b)).getD (V.int 0)=V.int (if c=b then u else mM r b)
  by_cases e:c=b
  ·rw [if_pos e,cT (by rw [e])];rfl
  ·rw [if_neg e,cU (fun z=>e (by injection z)),kN r b]
theorem ky:∀ (ps:List (Int×Int)) (b t:Int),(ps.map (·.1)).Nodup->db (jv ps) (Sum.inl b) (V.int (mM ps b+t))=jv (dJ ps b t)
 | [],b,t,_=>rfl
 | (c,u) :: r,b,t,nd=>by
  have nd':=List.nodup_cons.mp nd
  show db ((Sum.inl c,V.int u) :: jv r) (Sum.inl b) (V.int ((if c=b then u else mM r b)+t))=jv (if c=b then (c,u+t) :: r else (c,u) :: dJ r b t)
  by_cases e:c=b
  ·rw [if_pos e,if_pos e,sy (by rw [e]) (fun q hq z=>?_)]
   ·show _=(Sum.inl c,V.int (u+t)) :: jv r
    rw [e]
   ·obtain⟨p,hp,rfl⟩:=List.mem_map.mp hq
    have z':p.1=b:=by injection z
    exact nd'.1 (List.mem_map.mpr ⟨p,hp,z'.trans e.symm⟩)
  ·rw [if_neg e,if_neg e,pO (fun z=>e (by injection z)),ky r b t nd'.2]
   rfl
def fQ:List (Int×Int)->Rat
 | []=>0
 | p :: r=>(p.2:Rat) / (p.1:Rat)+fQ r
theorem wI {a b c:Rat}:(a+b) / c=a / c+b / c:=by rw [Rat.div_def,Rat.div_def,Rat.div_def,Rat.add_mul]
theorem iF:∀ (ps:List (Int×Int)) (b t:Int),fQ (dJ ps b t)=fQ ps+(t:Rat) / (b:Rat)
 | [],b,t=>by
  show ((0+t:Int):Rat) / (b:Rat)+0=0+(t:Rat) / (b:Rat)
  rw [Int.zero_add];grind
 | (c,u) :: r,b,t=>by
  show fQ (if c=b then (c,u+t) :: r else (c,u) :: dJ r b t)=(u:Rat) / (c:Rat)+fQ r+(t:Rat) / (b:Rat)
  by_cases e:c=b
  ·rw [if_pos e]
   show ((u+t:Int):Rat) / (c:Rat)+fQ r=_
   rw [Rat.intCast_add,wI,e]
   grind
  ·rw [if_neg e]
   show (u:Rat) / (c:Rat)+fQ (dJ r b t)=_
   rw [iF r b t]
   grind
theorem gF:∀ (ps:List (Int×Int)) (p:Int×Int),fQ (ps++[p])=fQ ps+(p.2:Rat) / (p.1:Rat)
 | [],p=>by show (p.2:Rat) / (p.1:Rat)+0=0+_;grind
 | q :: r,p=>by
  show (q.2:Rat) / (q.1:Rat)+fQ (r++[p])=(q.2:Rat) / (q.1:Rat)+fQ r+_
  rw [gF r p];grind
structure ij (n i:Nat) (ps:List (Int×Int)):Prop where
 nd:(ps.map (·.1)).Nodup
 len:ps.length≤i
 bot:∀ p∈ps,0 < p.1/\p.1.natAbs < 2 ^ n
 top:∀ p∈ps,p.2.natAbs≤i * 2 ^ n
theorem gD:∀ (ps:List (Int×Int)) (b t:Int) (c:Int),c∈(dJ ps b t).map (·.1)↔c∈ps.map (·.1)∨c=b
 | [],b,t,c=>by simp [dJ]
 | (d,u) :: r,b,t,c=>by
  show c∈(if d=b then (d,u+t) :: r else (d,u) :: dJ r b t).map (·.1)↔_
  by_cases e:d=b
  ·rw [if_pos e]
   constructor
   ·intro h;exact .inl h
   ·rintro (h | h)
    ·exact h
    ·exact List.mem_cons.mpr (.inl (h.trans e.symm))
  ·rw [if_neg e,List.map_cons,List.map_cons,List.mem_cons,List.mem_cons,gD r b t c]
   exact or_assoc.symm
theorem uG:∀ (ps:List (Int×Int)) (b t:Int),(ps.map (·.1)).Nodup->((dJ ps b t).map (·.1)).Nodup
 | [],b,t,_=>by simp [dJ]
 | (d,u) :: r,b,t,nd=>by
  have nd':=List.nodup_cons.mp nd
  show ((if d=b then (d,u+t) :: r else (d,u) :: dJ r b t).map (·.1)).Nodup
  by_cases e:d=b
  ·rw [if_pos e];exact nd
  ·rw [if_neg e,List.map_cons,List.nodup_cons]
   refine⟨fun z=>?_,uG r b t nd'.2⟩
   rcases (gD r b t d).mp z with h | h
   ·exact nd'.1 h
   ·exact e h
theorem pc:∀ (ps:List (Int×Int)) (b t:Int),(dJ ps b t).length≤ps.length+1
 | [],b,t=>Nat.le_refl 1
 | (d,u) :: r,b,t=>by
  show (if d=b then (d,u+t) :: r else (d,u) :: dJ r b t).length≤_
  split
  ·exact Nat.le_succ _
  ·exact Nat.succ_le_succ (pc r b t)
theorem o9:∀ (ps:List (Int×Int)) (b t:Int) (M N:Nat),(∀ p∈ps,p.2.natAbs≤M)->t.natAbs≤N->∀ p∈dJ ps b t,p.2.natAbs≤M+N
 | [],b,t,M,N,_,ht,p,hp=>by
  have e:p=(b,0+t):=by simpa [dJ] using hp
  rw [e]
  show (0+t).natAbs≤M+N
  omega
 | (d,u) :: r,b,t,M,N,h,ht,p,hp=>by
  have hu:u.natAbs≤M:=h (d,u) List.mem_cons_self
  have hr:∀ q∈r,q.2.natAbs≤M:=fun q hq=>h q (List.mem_cons_of_mem _ hq)
  have hp':p∈(if d=b then (d,u+t) :: r else (d,u) :: dJ r b t):=hp
  split at hp'
  ·rcases List.mem_cons.mp hp' with e | e
   ·rw [e]
    show (u+t).natAbs≤M+N
    omega
   ·have:=hr p e
    omega
  ·rcases List.mem_cons.mp hp' with e | e
   ·rw [e]
    show u.natAbs≤M+N
    omega
   ·exact o9 r b t M N hr ht p e
theorem ij.add {n i:Nat} {ps:List (Int×Int)} (h:ij n i ps) {r:R} (w:Wf n r):ij n (i+1) (dJ ps r.2 r.1) where
 nd:=uG ps r.2 r.1 h.nd
 len:=Nat.le_trans (pc ps r.2 r.1) (Nat.succ_le_succ h.len)
 bot:=fun p hp=>by
  rcases (gD ps r.2 r.1 p.1).mp (List.mem_map.mpr ⟨p,hp,rfl⟩) with z | z
  ·obtain⟨q,hq,e⟩:=List.mem_map.mp z
   rw [← e]
   exact h.bot q hq
  ·rw [z];exact⟨w.pos,w.bot⟩
 top:=fun p hp=>by
  have:=o9 ps r.2 r.1 (i * 2 ^ n) (2 ^ n) h.top (Nat.le_of_lt w.top) p hp
  rw [Nat.add_mul,Nat.one_mul]
  exact this
theorem ij.nil (n:Nat):ij n 0 []:=⟨List.nodup_nil,Nat.le_refl _,(fun _ h=>nomatch h),(fun _ h=>nomatch h)⟩
theorem ij.wf {n i:Nat} {ps:List (Int×Int)} (h:ij n i ps) (hi:i≤255) {p:Int×Int} (hp:p∈ps):Wf (n+8) (cX p.2 p.1):=by
 refine tO (h.bot p hp).1 ?_ (Nat.lt_of_lt_of_le (h.bot p hp).2 (Nat.pow_le_pow_right (by decide) (by omega)))
 have a:=h.top p hp
 have b:i * 2 ^ n≤255 * 2 ^ n:=Nat.mul_le_mul_right _ hi
 have c:0 < 2 ^ n:=Nat.pow_pos (by decide)
 rw [Nat.pow_add]
 omega
def hV:List R->Rat
 | []=>0
 | r :: t=>val r+hV t
theorem gE:∀ (rs:List R) (r:R),hV (rs++[r])=hV rs+val r
 | [],r=>by show val r+0=0+val r;grind
 | q :: t,r=>by show val q+hV (t++[r])=val q+hV t+val r;rw [gE t r];grind
theorem eT:∀ (rs:List R) (acc:R),eQ acc->(∀ r∈rs,eQ r)->eQ (rs.foldl bU acc)/\val (rs.foldl bU acc)=val acc+hV rs
 | [],acc,ha,_=>⟨ha,by show val acc=val acc+0;grind⟩
 | r :: t,acc,ha,h=>by
  have hr:=h r List.mem_cons_self
  obtain⟨a,b⟩:=eT t (bU acc r) (lT ha hr) fun q hq=>h q (List.mem_cons_of_mem _ hq)
  refine⟨a,?_⟩
  rw [List.foldl_cons,b,f6 ha.pos hr.pos]
  show val acc+val r+hV t=val acc+(val r+hV t)
  grind
theorem fO:val (0,1)=0:=by decide +kernel
theorem m8:eQ (0,1):=⟨by decide,by decide⟩
theorem om {rs:List R} (h:∀ r∈rs,eQ r):eQ (dD rs)/\val (dD rs)=hV rs:=by
 obtain⟨a,b⟩:=eT rs (0,1) m8 h
 refine⟨a,b.trans ?_⟩
 rw [fO];grind
theorem qK {rs:List R} {x:R} (h:∀ r∈rs,eQ r) (hx:eQ x) (e:val x=hV rs):x=dD rs:=
 j6 hx (om h).1 (e.trans (om h).2.symm)
theorem Wf.red {n:Nat} {r:R} (h:Wf n r):eQ r:=⟨h.pos,h.cop⟩
section
set_option autoImplicit true
set_option relaxedAutoImplicit true
theorem gt   : QE X (.Dict [] [] pos) qF:=⟨tj ⟩
theorem sv  (hu:X.A.units+1 < cLine) (ho:QE X o td) (he:QE X e ty) (hf:QE X f tx) (m:M2 X o "get" apos e f cpos):QE X (.Call (.Attribute o "get" apos) [e,f] [] cpos) (qH td ty tx):=⟨tq hu ho.p he.p hf.p m⟩
theorem gk  (hu:X.A.units+1 < cLine) (ho:QE X o td) (hi:QE X i ty) (hv:QE X value tv) (hs:swapsWith value (some (.Subscript o i pos')) pos.line X.env=pure false):QS X (.Assign [.Subscript o i pos'] value pos) (xf td ty tv):=⟨vy hu ho.p hi.p hv.p hs⟩
theorem so  {X:Cx} {elts:List Expr} {x1} {tp apos pos:Pos} {o:Expr} {td:TE} (ho:QE X o td) (hb:attributeBase o "items" X.env (eval o X.env)=eval o X.env:=by rfl) (hl:(apos.endLine == pos.line)=true:=by rfl):QI X (.Tuple elts x1 tp) (.Call (.Attribute o "items" apos) [] [] pos) (ub td):=⟨sU ho.p hb hl⟩
end
end B
namespace B
abbrev Pl:=Nat×Nat
def v1 (p:Pl):Int:=(p.2:Int) - p.1+1
def Aw (p q:Pl):Prop:=p.1 < q.1∨(p.1=q.1/\q.2≤p.2)
structure F6 (S:Pl->Prop) (L:Pl->Int) (p:Pl):Prop where
 inn:S p
 all:∀ q,S q->L q * v1 p < L p * v1 q∨(L q * v1 p=L p * v1 q/\Aw p q)
def Ey (n:Nat) (p:Pl):Prop:=p.1≤p.2/\p.2 < n
def Ex (n b e:Nat) (p:Pl):Prop:=Ey n p/\(p.1 < b∨(p.1=b/\e≤p.2))
def Ew (n b e:Nat) (p:Pl):Prop:=Ey n p/\(p.1 < b∨(p.1=b/\p.2 < e))
abbrev Wn:=Option (Nat×Nat)
def BU (b e:Nat):Wn->Bool
 | none=>false
 | some (x,y)=>decide (b≤x) && decide (y≤e)
def BV (ws:List Wn) (p:Pl):List Nat:=(List.range ws.length).filter fun i=>BU p.1 p.2 (ws.getD i none)
def Ef (ws:List Wn) (A:Nat->Int) (p:Pl):Int:=((BV ws p).map A).sum
end B
namespace B
open PySem PySem.Spec L2 PyProof.Rows
def bG (ns:List Int):List Int:=ns.foldl step_dedup []
theorem m9 (ns:List Int):(List.range ns.length).map (fun i=>ns.getD i 0)=ns:=by
 apply List.ext_getElem
 ·simp
 ·intro i h1 h2
  rw [List.getElem_map,List.getElem_range,List.getD_eq_getElem?_getD,List.getElem?_eq_getElem h2]
  rfl
theorem ma (ns:List Int):firstMet (fun i=>ns.getD i 0) ns.length=bG ns:=by
 unfold firstMet bG
 rw [m9]
theorem dz:∀ (ns σ:List Int),σ.Nodup->(ns.foldl step_dedup σ).Nodup/\(∀ k,k∈ns.foldl step_dedup σ↔k∈σ∨k∈ns)/\(ns.foldl step_dedup σ).length≤σ.length+ns.length∧
  ((ns.foldl step_dedup σ).length=σ.length+ns.length↔(σ++ns).Nodup)
 | [],σ,h=>⟨h,fun k=>by simp,by simp,by simp [h]⟩
 | n :: ns,σ,h=>by
  rw [List.foldl_cons]
  by_cases c:σ.any (· == n)=true
  ·have e:step_dedup σ n=σ:=by unfold step_dedup;rw [if_pos c]
   rw [e]
   obtain⟨a1,a2,a3,a4⟩:=dz ns σ h
   have hm:n∈σ:=by
    obtain⟨x,hx,q⟩:=List.any_eq_true.mp c
    rw [← show x=n from by simpa using q];exact hx
   refine⟨a1,fun k=>?_,by rw [List.length_cons];omega,?_⟩
   ·rw [a2,List.mem_cons]
    constructor
    ·rintro (h | h)
     ·exact .inl h
     ·exact .inr (.inr h)
    ·rintro (h | h | h)
     ·exact .inl h
     ·rw [h];exact .inl hm
     ·exact .inr h
   ·constructor
    ·intro q;rw [List.length_cons] at q;omega
    ·intro q
     exact absurd rfl ((List.nodup_append.mp q).2.2 n hm n List.mem_cons_self)
  ·have e:step_dedup σ n=σ++[n]:=by unfold step_dedup;rw [if_neg c]
   rw [e]
   have hm:n∉σ:=fun hx=>c (List.any_eq_true.mpr ⟨n,hx,by simp⟩)
   have h':(σ++[n]).Nodup:=List.nodup_append.mpr ⟨h,by simp,fun a ha b hb=>by
    rw [List.mem_singleton] at hb
    intro z;rw [z,hb] at ha;exact hm ha⟩
   obtain⟨a1,a2,a3,a4⟩:=dz ns (σ++[n]) h'
   refine⟨a1,fun k=>?_,?_,?_⟩
   ·rw [a2,List.mem_append,List.mem_singleton,List.mem_cons,or_assoc]
   ·rw [List.length_append,List.length_singleton] at a3;rw [List.length_cons];omega
   ·rw [List.length_append,List.length_singleton,List.append_assoc] at a4
    rw [← show [n]++ns=n :: ns from rfl,← a4,List.length_append,List.length_singleton]
    omega
theorem fK (ns:List Int):(bG ns).Nodup:=(dz ns [] (by simp)).1
theorem g5 (ns:List Int) (k:Int):k∈bG ns↔k∈ns:=by
 have:=(dz ns [] (by simp)).2.1 k
 unfold bG
 simpa using this
def D1 (K:PySem.W.Frag):List V->Hp->VK->Prop:=fun xs H Q=>∃ p ns,xs=[.ref p]/\aF K H p (ns.map V.int)/\ns.length≤1000/\∀ l,H l=none->Q (.ref l) (ax H l (.set (fun k=>(bG ns).any (· == k)) (bG ns).length))
def D4:List V->Hp->VK->Prop:=fun xs H Q=>∃ p S n,xs=[.ref p]/\H p=some (.set S n)/\Q (.int n) H
def gR (xs:Array Nat):Prop:=∀ i j (_:i < j) (hj:j < xs.size),xs[i]'(by omega) < xs[j]
theorem jg {xs:Array Nat} {j:Nat}:∀ (fuel lo hi:Nat),lo≤hi->hi≤xs.size->hi - lo≤fuel->gR xs->(∀ i (h:i < xs.size),i < lo->xs[i] < j)->(∀ i (h:i < xs.size),hi≤i->j≤xs[i])→
  lo≤SetTable.below.go xs j fuel lo hi/\SetTable.below.go xs j fuel lo hi≤hi/\(∀ i (h:i < xs.size),i < SetTable.below.go xs j fuel lo hi->xs[i] < j)/\(∀ i (h:i < xs.size),SetTable.below.go xs j fuel lo hi≤i->j≤xs[i])
 | 0,lo,hi,h1,h2,h3,_,a,b=>by
  unfold SetTable.below.go
  exact⟨Nat.le_refl _,h1,a,fun i h q=>b i h (by omega)⟩
 | fuel+1,lo,hi,h1,h2,h3,R,a,b=>by
  unfold SetTable.below.go
  by_cases c:lo < hi
  ·rw [if_pos c]
   have hm:(lo+hi) / 2 < xs.size:=by omega
   have e:xs.getD ((lo+hi) / 2) j=xs[(lo+hi) / 2]:=by simp [Array.getD,hm]
   dsimp only
   rw [e]
   by_cases d:xs[(lo+hi) / 2] < j
   ·rw [if_pos d]
    obtain⟨c1,c2,c3,c4⟩:=jg fuel ((lo+hi) / 2+1) hi (by omega) h2 (by omega) R (fun i h q=>by
     by_cases z:i=(lo+hi) / 2
     ·subst z;exact d
     ·exact Nat.lt_trans (R i ((lo+hi) / 2) (by omega) hm) d) b
    exact⟨by omega,c2,c3,c4⟩
   ·rw [if_neg d]
    obtain⟨c1,c2,c3,c4⟩:=jg fuel lo ((lo+hi) / 2) (by omega) (by omega) (by omega) R a (fun i h q=>by
     by_cases z:i=(lo+hi) / 2
     ·subst z;omega
     ·have:=R ((lo+hi) / 2) i (by omega) h
      omega)
    exact⟨c1,by omega,c3,c4⟩
  ·rw [if_neg c]
   exact⟨Nat.le_refl _,h1,a,fun i h q=>b i h (by omega)⟩
theorem jf {xs:Array Nat} (R:gR xs) (j:Nat):SetTable.below xs j≤xs.size/\(∀ i (h:i < xs.size),i < SetTable.below xs j->xs[i] < j)/\(∀ i (h:i < xs.size),SetTable.below xs j≤i->j≤xs[i]):=by
 have:=jg (xs:=xs) (j:=j) xs.size 0 xs.size (Nat.zero_le _) (Nat.le_refl _) (by omega) R (fun i h q=>by omega) (fun i h q=>by omega)
 exact this.2
theorem jh {xs:Array Nat} (R:gR xs) {i j:Nat} (hi:i≤xs.size) (lo:∀ k (h:k < xs.size),k < i->xs[k] < j) (hi':∀ k (h:k < xs.size),i≤k->j≤xs[k]):SetTable.below xs j=i:=by
 obtain⟨a,b,c⟩:=jf R j
 rcases Nat.lt_trichotomy (SetTable.below xs j) i with h | h | h
 ·have h1:=c (SetTable.below xs j) (by omega) (Nat.le_refl _)
  have h2:=lo (SetTable.below xs j) (by omega) h
  omega
 ·exact h
 ·have h1:=b i (by omega) h
  have h2:=hi' i (by omega) (Nat.le_refl _)
  omega
theorem nQ {xs:Array Nat} (R:gR xs):SetTable.below xs 0=0:=jh R (Nat.zero_le _) (fun _ _ h=>by omega) (fun _ _ _=>Nat.zero_le _)
theorem nS {xs:Array Nat} (R:gR xs) {i:Nat} (h:i < xs.size):SetTable.below xs (xs[i]+1)=i+1:=
 jh R h (fun k hk q=>by
  by_cases z:k=i
  ·subst z;omega
  ·exact Nat.lt_succ_of_lt (R k i (by omega) h)) (fun k hk q=>R i k (by omega) hk)
theorem qm {xs:Array Nat} (R:gR xs) {i:Nat} (h:i < xs.size):SetTable.below xs xs[i]=i:=
 jh R (Nat.le_of_lt h) (fun k hk q=>R k i q h) (fun k hk q=>by
  by_cases z:k=i
  ·subst z;omega
  ·exact Nat.le_of_lt (R i k (by omega) hk))
theorem ia {t:SetTable} {j:Nat} (R:gR t.place) (h:t.slot j=.empty):∀ i (q:i < t.place.size),t.place[i]≠j:=by
 intro i q e
 unfold SetTable.slot at h
 dsimp only at h
 rw [← e,qm R q] at h
 simp [q] at h
theorem lN {xs:Array Nat} (R:gR xs) {j:Nat} (n:∀ i (q:i < xs.size),xs[i]≠j):gR (SetTable.insertAt xs (SetTable.below xs j) j):=by
 obtain⟨a,b,c⟩:=jf R j
 have el:=SetTable.toList_insertAt xs (SetTable.below xs j) j
 have P:xs.toList.Pairwise (· < ·):=by
  rw [List.pairwise_iff_getElem]
  intro i k hi hk q
  exact R i k q (by simpa using hk)
 suffices S:(SetTable.insertAt xs (SetTable.below xs j) j).toList.Pairwise (· < ·) by
  rw [List.pairwise_iff_getElem] at S
  intro i k q hk
  exact S i k (by simpa using Nat.lt_trans q hk) (by simpa using hk) q
 rw [el]
 have s1:∀ x∈xs.toList.take (SetTable.below xs j),x < j:=by
  intro x hx
  obtain⟨i,hi,rfl⟩:=List.mem_iff_getElem.mp hx
  rw [List.getElem_take]
  have hi2:i < SetTable.below xs j:=by rw [List.length_take] at hi;omega
  exact b i (by omega) hi2
 have s2:∀ x∈xs.toList.drop (SetTable.below xs j),j < x:=by
  intro x hx
  obtain⟨i,hi,rfl⟩:=List.mem_iff_getElem.mp hx
  rw [List.getElem_drop]
  rw [List.length_drop,Array.length_toList] at hi
  have h1:=c (SetTable.below xs j+i) (by omega) (by omega)
  have h2:=n (SetTable.below xs j+i) (by omega)
  show j < xs[SetTable.below xs j+i]
  omega
 rw [List.pairwise_append]
 refine⟨P.sublist (List.take_sublist _ _),List.pairwise_cons.mpr ⟨s2,P.sublist (List.drop_sublist _ _)⟩,fun x hx y hy=>?_⟩
 rcases List.mem_cons.mp hy with rfl | hy
 ·exact s1 x hx
 ·exact Nat.lt_trans (s1 x hx) (s2 y hy)
theorem jP (j:Nat):SetTable.has #[] j=false:=by
 unfold SetTable.has
 simp
theorem iU {t:SetTable} (hd:t.dummies=#[]) (h:Int):∀ (fuel:Nat) (p:SetTable.Probe) (m:SetTable.Met),p.dummy=none->SetTable.probe.go t (fun _=>h+1) h fuel p=some m->∃ j,m=.empty j none/\t.slot j=.empty
 | 0,p,m,_,e=>by unfold SetTable.probe.go at e;cases e
 | fuel+1,p,m,z,e=>by
  unfold SetTable.probe.go at e
  split at e
  ·rename_i hs
   cases e
   exact⟨p.j,by rw [z],hs⟩
  ·rename_i hs
   unfold SetTable.slot at hs
   dsimp only at hs
   rw [hd,jP] at hs
   split at hs <;> simp at hs
  ·rw [if_neg (by simp;omega)] at e
   refine iU hd h fuel _ m ?_ e
   unfold SetTable.advance
   split <;> exact z
theorem ju {t:SetTable} (hd:t.dummies=#[]) {h:Int} {j:Nat} {b:Bool} (e:t.freeSlot h=some (j,b)):t.slot j=.empty:=by
 unfold SetTable.freeSlot at e
 cases q:t.probe (fun _=>h+1) h (t.probeStart h) with
 | none=>rw [q] at e;cases e
 | some m=>
  obtain⟨j',rfl,hs⟩:=iU hd h _ _ m rfl q
  rw [q] at e
  simp only [Option.getD_none,Option.isSome_none,Option.some.injEq,Prod.mk.injEq] at e
  rw [← e.1];exact hs
def nX (t:SetTable):Prop:=t.plain=true->t.dummies=#[]/\gR t.place
theorem mP (a b:Nat) (led:Bool):nX (.fresh a b led):=fun _=>⟨rfl,fun i j h hj=>absurd hj (by simp [SetTable.fresh])⟩
theorem lE {t:SetTable} (T:nX t) (es:Array (Int×Value)) (h:Int) (x:Value):nX (layNew t es h x).2.1/\(layNew t es h x).2.1.led=t.led:=by
 unfold layNew
 split
 ·rename_i j b e
  dsimp only
  unfold SetTable.orStandIn
  split
  ·refine⟨fun hp=>?_,rfl⟩
   have hp':t.plain=true:=hp
   obtain⟨d,R⟩:=T hp'
   refine⟨?_,lN R (ia R (ju d e))⟩
   show (if SetTable.has t.dummies j then _ else t.dummies)=#[]
   rw [d,jP];rfl
  ·exact⟨fun hp=>absurd hp (by simp [SetTable.standIn]),rfl⟩
 ·exact⟨fun hp=>absurd hp (by simp [SetTable.standIn]),rfl⟩
theorem pJ (n:Nat) (f:Nat->Option Nat):gR ((((List.range n).filterMap fun j=>(f j).map (j,·)).map (·.1)).toArray):=by
 have S:(((List.range n).filterMap fun j=>(f j).map (j,·)).map (·.1)).Pairwise (· < ·):=by
  rw [List.map_filterMap]
  refine List.Pairwise.filterMap _ (R:=(· < ·)) (fun a b h x hx y hy=>?_) List.pairwise_lt_range
  simp only [Option.map_map,Option.map_eq_some_iff] at hx hy
  obtain⟨_,_,rfl⟩:=hx
  obtain⟨_,_,rfl⟩:=hy
  exact h
 intro i k q hk
 rw [List.pairwise_iff_getElem] at S
 simp only [List.getElem_toArray]
 exact S i k (by simpa using Nat.lt_trans q hk) (by simpa using hk) q
theorem jo {t:SetTable} (es:Array (Int×Value)) (n:Nat):nX (relayAll t es n).2.1/\(relayAll t es n).2.1.led=t.led:=by
 unfold relayAll
 split
 ·rename_i t' order e
  dsimp only
  split
  ·unfold SetTable.relaid SetTable.laid at e
   cases q:SetTable.layClean (SetTable.sizeAbove n - 1) (es.map (·.1)) with
   | none=>rw [q] at e;cases e
   | some owner=>
    rw [q] at e
    simp only [Option.bind_eq_bind,Option.bind_some,Option.pure_def,Option.some.injEq,Prod.mk.injEq] at e
    obtain⟨rfl,_⟩:=e
    exact⟨fun _=>⟨rfl,pJ _ _⟩,rfl⟩
  ·exact⟨fun hp=>absurd hp (by simp [SetTable.standIn]),rfl⟩
 ·exact⟨fun hp=>absurd hp (by simp [SetTable.standIn]),rfl⟩
theorem ja {α:Type} {l:List α} {i:Nat} (h:i < l.length):List.Perm (l[i] :: l.eraseIdx i) l:=by
 rw [List.eraseIdx_eq_take_drop_succ]
 have e:l=l.take i++l[i] :: l.drop (i+1):=by rw [List.getElem_cons_drop,List.take_append_drop]
 exact (List.perm_middle.symm).trans (.of_eq e.symm)
theorem gX {α:Type} (next:Nat->Nat):∀ (fuel k:Nat) (left:List α) (out:Array α),left.length=fuel->List.Perm (pickOrder.go next fuel k left out).toList (out.toList++left)
 | 0,k,left,out,h=>by
  unfold pickOrder.go
  rw [List.length_eq_zero_iff.mp h,List.append_nil]
 | fuel+1,k,left,out,h=>by
  unfold pickOrder.go
  have hm:next k % left.length < left.length:=Nat.mod_lt _ (by omega)
  rw [List.getElem?_eq_getElem hm]
  dsimp only
  refine (gX next fuel (k+1) (left.eraseIdx (next k % left.length)) (out.push left[next k % left.length]) (by rw [List.length_eraseIdx_of_lt hm];omega)).trans ?_
  rw [Array.toList_push,List.append_assoc]
  refine List.Perm.append_left _ ?_
  exact ja hm
theorem pQ {α:Type} (next:Nat->Nat) (xs:Array α):List.Perm (pickOrder next xs).toList xs.toList:=by
 unfold pickOrder
 have:=gX next xs.size 0 xs.toList #[] (by simp)
 simpa using this
section
variable {prog:Program} {w:World} {A:Around} {E:Value->Shared->Prop} {s:Shared}
def j8:Value->Int
 | .int n _=>n
 | _=>0
def bI (w:World) (h:Heap) (a:Addr) (ks:List Int):Prop:=∃ o es ep t,h.get? a=some o/\o.ExactSet/\o.data=.set es ep t/\(∀ e∈es.toList,∃ n u,e=(hashInt n,Value.int n u))∧
 (es.toList.map fun e=>j8 e.2).Perm ks/\t.fits es.size=true/\nX t/\t.led=!w.params.followText "set-order"
theorem bI.at {h h':Heap} {a:Addr} {ks:List Int} (I:bI w h a ks) (k:∀ o,h.get? a=some o->h'.get? a=some o):bI w h' a ks:=by
 obtain⟨o,es,ep,t,ho,r⟩:=I
 exact⟨o,es,ep,t,k o ho,r⟩
theorem uu {es:List (Int×Value)} (h:∀ e∈es,∃ n u,e=(hashInt n,Value.int n u)):ElemsOf (intKind prog w) es:=by
 intro e he
 obtain⟨n,u,rfl⟩:=h e he
 exact⟨⟨n,intKind_is _ _ _ _,rfl⟩,rfl⟩
theorem t7 {k n:Int} {u:Tok}:(intKind prog w).is k (.int n u)=decide (k=n):=by
 show Value.isInt k (.int n u)=_
 unfold Value.isInt
 by_cases e:k=n
 ·subst e;simp
 ·rw [decide_eq_false e]
  simpa using fun z:n=k=>e z.symm
theorem l5 {a:Addr} {o:Obj} {es es':Array (Int×Value)} {ep:Nat} {t t':SetTable} {ks:List Int} (ho:s.heap.get? a=some o) (hx:o.ExactSet) (hd:o.data=.set es ep t)
  (h1:∀ e∈es'.toList,∃ n u,e=(hashInt n,Value.int n u)) (h2:(es'.toList.map fun e=>j8 e.2).Perm ks) (h3:t'.fits es'.size=true) (h4:nX t') (h5:t'.led=!w.params.followText "set-order") :
  (s.heap.update a (Obj.putSet es' t')).get? a=some { o with data:=.set es' (ep+1) t' }/\bI w (s.heap.update a (Obj.putSet es' t')) a ks:=by
 have hg:(s.heap.update a (Obj.putSet es' t')).get? a=some { o with data:=.set es' (ep+1) t' }:=by
  have:=Heap.get?_update_self (Obj.putSet es' t') ho (by rw [putSet_of es' t' hd];rfl)
  rw [putSet_of es' t' hd] at this;exact this
 exact⟨hg,_,es',ep+1,t',hg,hx,rfl,h1,h2,h3,h4,h5⟩
theorem zW {a:Addr} {ks:List Int} {k:Int} {u:Tok} {Q:Bool->Shared->Prop} (I:bI w s.heap a ks) (hb:ks.length+1 < scanBound)
  (h:∀ b h',Heap.SameBut a s.heap h'->bI w h' a (step_dedup ks k)->Q b { s with heap:=h' }):wpAny (model prog w) A (setAddHashed a (.int k u) (hashInt k)) Q E s:=by
 obtain⟨o,es,ep,t,ho,hx,hd,hs,hp,hf,T,hl⟩:=I
 have hn:es.size=ks.length:=by rw [← hp.length_eq,List.length_map,Array.length_toList]
 have hel:ElemsOf (intKind prog w) es.toList:=uu hs
 have hb0:es.size < scanBound:=by omega
 unfold setAddHashed setAddHashedIn
 refine wpAny_holding (wpAny_bind (wpAny_setState_of ho hd hf ?_))
 dsimp only
 rw [byScan_of (knd:=intKind prog w) (x:=.int k u) rfl hb0 hel]
 simp only [↓reduceIte]
 unfold setAddByScan
 refine wpAny_bind (wpAny_bind (wpAny_rule (wpAny_bind (wpAny_setScan_of (knd:=intKind prog w) (k:=k) (intKind_is _ _ _ _) ho hd hf hel ?_))))
 cases hr:List.findIdx? (fun e=>(intKind prog w).is k e.2) es.toList with
 | some j=>
  dsimp only
  obtain⟨hj,hpj,_⟩:=List.findIdx?_eq_some_iff_getElem.mp hr
  obtain⟨n,v,e⟩:=hs _ (List.getElem_mem hj)
  have hk:k∈ks:=by
   refine hp.mem_iff.mp (List.mem_map.mpr ⟨_,List.getElem_mem hj,?_⟩)
   rw [e] at hpj ⊢
   rw [t7] at hpj
   exact (of_decide_eq_true hpj).symm
  have hd':step_dedup ks k=ks:=by unfold step_dedup;rw [if_pos (List.any_eq_true.mpr ⟨k,hk,by simp⟩)]
  refine wpAny_pure (wpAny_pure ?_)
  have:=h false s.heap (Heap.SameBut.refl a s.heap) (by rw [hd'];exact⟨o,es,ep,t,ho,hx,hd,hs,hp,hf,T,hl⟩)
  have e:s={ s with heap:=s.heap }:=by cases s;rfl
  rw [e];exact this
 | none=>
  dsimp only
  have hk:k∉ks:=fun z=>by
   obtain⟨e,he,q⟩:=List.mem_map.mp (hp.mem_iff.mpr z)
   have:=List.findIdx?_eq_none_iff.mp hr e he
   obtain⟨n,v,rfl⟩:=hs e he
   rw [t7] at this
   exact (of_decide_eq_false this) q.symm
  have hd':step_dedup ks k=ks++[k]:=by
   unfold step_dedup
   rw [if_neg (fun z=>by obtain⟨x,m,q⟩:=List.any_eq_true.mp z;exact hk (by rw [← show x=k from by simpa using q];exact m))]
  rw [hd'] at h
  have hperm:=layNew_perm t es (hashInt k) (.int k u)
  have hfits:=layNew_fits t es (hashInt k) (.int k u)
  have htidy:=lE T es (hashInt k) (.int k u)
  show wpAny _ _ (match layNew t es (hashInt k) (.int k u) with | (es,t,wasDummy,gave)=>_) _ _ _
  generalize layNew t es (hashInt k) (.int k u)=L at hperm hfits htidy ⊢
  obtain⟨es1,t1,dm,gave⟩:=L
  dsimp only at hperm hfits htidy ⊢
  rw [Array.toList_push] at hperm
  have s1:∀ e∈es1.toList,∃ n u,e=(hashInt n,Value.int n u):=fun e he=>by
   rcases List.mem_append.mp (hperm.mem_iff.mp he) with q | q
   ·exact hs e q
   ·exact⟨k,u,List.mem_singleton.mp q⟩
  have p1:(es1.toList.map fun e=>j8 e.2).Perm (ks++[k]):=by
   refine (hperm.map _).trans ?_
   rw [List.map_append]
   exact hp.append (.refl _)
  have n1:es1.size=ks.length+1:=by rw [← Array.length_toList,hperm.length_eq,List.length_append,Array.length_toList,hn];rfl
  have z1:es1.size≤sizeLine:=fits_of_scanBound (by omega)
  have gw:∀ (b:Bool) {s₁:Shared} {Q':Unit->Shared->Prop},Q' () s₁->wpAny (model prog w) A (match b with | true=>rule "set.scan.the-table-gave-way" | false=>pure ()) Q' E s₁:=
   fun b s₁ Q' hq=>by cases b <;> first | exact wpAny_pure hq | exact wpAny_rule hq
  have tail:∀ (t2:SetTable) (R:Option Bool->Shared->Prop),t2.fits es1.size=true->nX t2->t2.led=t.led->(∀ h',Heap.SameBut a s.heap h'->bI w h' a (ks++[k])->R (some true) { s with heap:=h' })→
    wpAny (model prog w) A (do
     storeSet a es1 t2
     if (!dm && t2.tooFull)=true then do
       (match (relayAll t2 es1 (SetTable.grown es1.size)).2.2 with | true=>rule "set.scan.the-table-gave-way" | false=>pure ())
       storeSet a (relayAll t2 es1 (SetTable.grown es1.size)).1 (relayAll t2 es1 (SetTable.grown es1.size)).2.1
       pure (some true)
      else pure (some true)) R E s:=by
   intro t2 R f2 T2 l2 hR
   refine wpAny_bind (wpAny_storeSet_of ho hd ?_ z1)
   obtain⟨g1,I1⟩:=l5 (w:=w) (ks:=ks++[k]) ho hx hd s1 p1 f2 T2 (l2.trans hl)
   have b1:=Heap.SameBut.update s.heap a (Obj.putSet es1 t2)
   split
   ·have hp2:=relayAll_perm t2 es1 (SetTable.grown es1.size)
    have hf2:=relayAll_fits t2 es1 (SetTable.grown es1.size)
    have ht2:=jo (t:=t2) es1 (SetTable.grown es1.size)
    generalize relayAll t2 es1 (SetTable.grown es1.size)=Rl at hp2 hf2 ht2 ⊢
    obtain⟨es2,t3,gv⟩:=Rl
    dsimp only at hp2 hf2 ht2 ⊢
    have n2:es2.size=es1.size:=by rw [← Array.length_toList,hp2.length_eq,Array.length_toList]
    refine wpAny_bind (gw _ (wpAny_bind (wpAny_storeSet_of g1 rfl (wpAny_pure (hR _ (b1.trans (Heap.SameBut.update _ a _)) ?_)) (by rw [n2];exact z1))))
    exact (l5 (s:={ s with heap:=s.heap.update a (Obj.putSet es1 t2) }) (w:=w) (ks:=ks++[k]) g1 hx rfl (fun e he=>s1 e (hp2.mem_iff.mp he)) ((hp2.map _).trans p1) hf2 ht2.1 (ht2.2.trans (l2.trans hl))).2
   ·exact wpAny_pure (hR _ b1 I1)
  refine wpAny_bind (gw _ ?_)
  split
  ·refine wpAny_bind ?_
   rw [hashByValue_scannable 8 (x:=.int k u) rfl]
   refine wpAny_pure ?_
   exact tail _ _ hfits htidy.1 htidy.2 fun h' b i=>wpAny_pure (h true h' b i)
  ·refine wpAny_bind (wpAny_pure ?_)
   simp only [↓reduceIte]
   exact tail _ _ hfits htidy.1 htidy.2 fun h' b i=>wpAny_pure (h true h' b i)
end
section
variable {prog:Program} {w:World} {A:Around} {E:Value->Shared->Prop} {s:Shared}
def bj (w:World):Obj:={ cls:=.type "set", dict:=none,data:=.set #[] 0 (.fresh 0 0 (!w.params.followText "set-order")) }
theorem l7 {h:Heap} {a:Addr} (e:h.get? a=some (bj w)):bI w h a []:=
 ⟨_,#[],0,_,e,⟨rfl,rfl,rfl⟩,rfl,fun e h=>by simp at h,.refl _,rfl,mP _ _ _,rfl⟩
theorem zV (v:Value) {Q₁:Value->Shared->Prop} (h:Q₁ (.ref s.heap.objs.size) { s with heap:=s.heap.push (bj w) }) :
  codeAny (model prog w) A (.call (.builtin "set.__new__") ⟨[.type "set", v],[]⟩) (wants Q₁ E) s:=by
 refine codeAny_of_tree ?_
 show wpAny _ A.in1 (do checkBuiltinCall "set.__new__" ⟨[.type "set", v],[]⟩;again (.builtin "set.__new__" ⟨[.type "set", v],[]⟩)) _ _ s
 refine wpAny_bind (wpAny_of_eq (PySem.F.newCall_set_1 v) (wpAny_pure ⟨plainId_quiet PySem.F.plain_set_new _,codeAny_builtin PySem.F.entry_set_new ?_⟩))
 rw [Around.under_plainId PySem.F.plain_set_new _]
 unfold Builtin.«set.__new__» Builtin.Frozenset.newClass
 have hsub:=sub_set_self
 obtain⟨hp,g,d,tk,os⟩:=s
 dsimp only
 wp_walk
 refine wpAny_askSetting (wpAny_pure ?_)
 dsimp only
 simp only [newObj]
 exact wpAny_bind (wpAny_alloc (wpAny_pure (wpAny_pure h)))
variable {R:Result->Shared->Prop} {I:Addr} {fp wr:List Addr} {G:Array GenState->Array GenState->Prop} {n:Nat} {P:Nat->Value->Prop} {St:Nat->Shared->Prop}
theorem oQ (W:WalksS prog w A.in1 I fp wr G n P St) (S:Addr) (hSf:S∉fp) (val:Nat->Int) (hval:∀ i v,P i v->∃ t,v=.int (val i) t) (hb:n+1 < scanBound) :
  ∀ (k i:Nat) (s:Shared),n - i=k->i≤n->St i s->bI w s.heap S (firstMet val i)→
   (∀ s',Moved (S :: wr) G s s'->bI w s'.heap S (firstMet val n)->R (.ok (.ret .none)) s')->codeAny (model prog w) A (.builtin "set.update.loop" ⟨[.ref S,.ref I],[]⟩) R s:=by
 have hSw:S∉wr:=fun h=>hSf (W.sub _ h)
 have hsub:∀ b∈wr,b∈S :: wr:=fun b hb=>List.mem_cons_of_mem _ hb
 intro k
 induction k with
 | zero=>
  intro i s hk hi hst hS hR
  obtain rfl:i=n:=by omega
  refine codeAny_builtin PyProof.Rows.F.entry_set_update_loop ?_
  rw [Around.under_plainId PyProof.Rows.F.plain_set_update_loop _]
  show wpAny _ A.in1 (pyNext (.ref I) >>= _) _ _ s
  refine wpAny_bind (W.done s _ _ hst fun s' hm=>?_)
  exact wpAny_pure (hR s' (hm.mono hsub) (hS.at fun o e=>hm.heap S _ hSw e))
 | succ k ih=>
  intro i s hk hi hst hS hR
  refine codeAny_builtin PyProof.Rows.F.entry_set_update_loop ?_
  rw [Around.under_plainId PyProof.Rows.F.plain_set_update_loop _]
  show wpAny _ A.in1 (pyNext (.ref I) >>= _) _ _ s
  refine wpAny_bind (W.item i s _ _ (by omega) hst fun v s' hP hst' hm=>?_)
  obtain⟨t,rfl⟩:=hval i v hP
  show wpAny _ A.in1 (holding [Value.int (val i) t] (setAdd S (.int (val i) t)) >>= _) _ _ s'
  refine wpAny_bind (wpAny_holding ?_)
  unfold setAdd
  refine wpAny_holding (wpAny_bind ((intKind prog w).pyHash (k:=val i) (intKind_is _ _ _ _) ?_))
  refine zW (s:={ s' with toks:=s'.toks+1 }) (hS.at fun o e=>hm.heap S _ hSw e) (by have:=firstMet_length_le val i;omega) fun b h' hsb hS2=>?_
  rw [← firstMet_succ] at hS2
  refine wpAny_pure ⟨plainId_quiet PyProof.Rows.F.plain_set_update_loop _,ih (i+1) _ (by omega) (by omega) (W.frame _ s' _ _ hst' (Nat.le_succ _) fun b hb o e=>?_) hS2 fun s'' hm'' hS''=>?_⟩
  ·rw [hsb.2 b (fun h:b=S=>hSf (by rw [← h];exact hb))];exact e
  ·refine hR s'' (Moved.trans W.gtrans ((hm.mono hsub).then_heap (Nat.le_succ _) fun b o hb e=>?_) hm'') hS''
   rw [hsb.2 b (fun h:b=S=>hb (by rw [h];exact List.mem_cons_self))];exact e
end
section
variable {prog:Program} {w:World} {A:Around} {E:Value->Shared->Prop} {s:Shared}
set_option maxRecDepth 100000 in
set_option maxHeartbeats 3200000 in
theorem wc {T:String} {l:Addr} {ol:Obj} {items:Array Value} {nl:Nat} {ns:List Int} {Q:Value->Shared->Prop} (hT0:T = "list" ∨ T = "tuple")
  (hh:A.handled=none) (hol:s.heap.get? l=some ol) (hcl:ol.cls=.type T) (hdl:ol.data=.seq items nl) (hi:IntsAre items.toList ns) (hb:items.size+1 < scanBound)
  (h:∀ (h':Heap) (tk:Nat),bI w h' s.heap.objs.size (bG ns)->(∀ b o,b < s.heap.objs.size->s.heap.get? b=some o->h'.get? b=some o)->Q (.ref s.heap.objs.size) { s with heap:=h',toks:=tk }) :
  wpAny (model prog w) A (call (.type "set") [.ref l]) Q E s:=by
 have hlen:items.size=ns.length:=by rw [← Array.length_toList];exact IntsAre.length hi
 obtain⟨c,tl,hmro⟩:=PySem.F.called_set.mro
 have hmade:=PySem.F.called_set.made
 have hsub:=PySem.F.called_set.sub
 refine wpAny_call (codeAny_of_tree ?_)
 show wpAny _ _ (callAny (.type "set") _) _ _ _
 refine wpAny_pure ⟨Code.quiet_builtin _ (by decide +kernel),codeAny_builtin PySem.F.entry_type_call ?_⟩
 rw [Around.under_plain (weight_type_call_type "set" [.ref l] []) rfl]
 have h1:=PySem.F.called_set.notType
 have h2:=PySem.F.called_set.canCreate
 have hct:=PySem.F.typeCall_set_1 (.ref l)
 repeat (any_goals (first | assumption | wp_step))
 refine codeAny_mono (zV (.ref l) (E:=E) (Q₁:=fun obj s₁=>obj=.ref s.heap.objs.size/\s₁={ s with heap:=s.heap.push (bj w) }) ⟨rfl,rfl⟩) fun r s₁ hr=>?_
 cases r with
 | error e=>exact hr
 | ok fl=>
  cases fl with
  | ret obj=>
   obtain⟨rfl,rfl⟩:=hr
   have hS:(s.heap.push (bj w)).get? s.heap.objs.size=some (bj w):=Heap.get?_push_size _ rfl
   have hT:Shared.TypeIs { s with heap:=s.heap.push (bj w) } (.ref s.heap.objs.size) "set" := ⟨_,hS,rfl⟩
   have hli:=PySem.F.called_set.init.lookup
   have hbi:=PySem.F.called_set.init.bind (.ref s.heap.objs.size)
   repeat (any_goals (first | assumption | wp_step))
   refine codeAny_mono (codeAny_call_builtin (R:=wants (fun r s₂=>r=.none/\∃ h' tk,s₂={ s with heap:=h',toks:=tk }/\bI w h' s.heap.objs.size (bG ns)∧
     (∀ b o,b < s.heap.objs.size->s.heap.get? b=some o->h'.get? b=some o)) E) PySem.F.called_set.init.plain PySem.F.entry_set_init (check_set_init_1 hT ?_)) fun r₂ s₂ hr₂=>?_
   ·have hlS:l < s.heap.objs.size:=Heap.lt_size hol
    have hh3:A.in1.in1.in1.handled=none:=by simp [hh]
    have hol':(s.heap.push (bj w)).get? l=some ol:=Heap.get?_push_of_some _ hol
    have sz:(s.heap.push (bj w)).objs.size=s.heap.objs.size+1:=Heap.size_push ..
    have hneI:l≠(s.heap.push (bj w)).objs.size:=Nat.ne_of_lt (by rw [sz];exact Nat.lt_succ_of_lt hlS)
    have hSf:s.heap.objs.size∉[(s.heap.push (bj w)).objs.size,l]:=by
     simp only [List.mem_cons,List.not_mem_nil,or_false,not_or]
     exact⟨Nat.ne_of_lt (by rw [sz];exact Nat.lt_succ_self _),Nat.ne_of_gt hlS⟩
    have hval:∀ (i:Nat) (v:Value),items[i]?=some v->∃ t,v=.int ((fun i=>ns.getD i 0) i) t:=fun i v hv=>IntsAre.int_at hi i v (by rw [Array.getElem?_toList];exact hv)
    have fin:∀ (it:Obj) (s':Shared),Moved [s.heap.objs.size,(s.heap.push (bj w)).objs.size] (fun a b=>b=a) { s with heap:=(s.heap.push (bj w)).push it } s'→
      bI w s'.heap s.heap.objs.size (firstMet (fun i=>ns.getD i 0) items.size)→
      ∃ h' tk,s'={ s with heap:=h',toks:=tk }/\bI w h' s.heap.objs.size (bG ns)/\(∀ b o,b < s.heap.objs.size->s.heap.get? b=some o->h'.get? b=some o):=by
     intro it s' hm hS'
     rw [hlen,ma] at hS'
     obtain⟨h',g',d',tk',os'⟩:=s'
     obtain rfl:g'=s.gens:=hm.gens
     obtain rfl:d'=s.drawn:=hm.drawn
     obtain rfl:os'=s.os:=hm.os
     refine⟨h',tk',rfl,hS',fun b o hb e=>hm.heap b o ?_ (Heap.get?_push_of_some _ (Heap.get?_push_of_some _ e))⟩
     simp only [List.mem_cons,List.not_mem_nil,or_false,not_or]
     exact⟨Nat.ne_of_lt hb,Nat.ne_of_lt (by rw [sz];exact Nat.lt_succ_of_lt hb)⟩
    obtain⟨ocls,odict,odata,oslots⟩:=ol
    simp only at hcl hdl
    subst hcl;subst hdl
    have n1:=PySem.F.sub_list_set
    have n2:=PySem.F.sub_list_frozenset
    have n3:=PySem.F.sub_tuple_set
    have n4:=PySem.F.sub_tuple_frozenset
    have n5:(Value.type "list" == Value.type "dict")=false:=by decide
    have n6:(Value.type "tuple" == Value.type "dict")=false:=by decide
    unfold Builtin.«set.__init__» noKeywords Builtin.Frozenset.updateFrom
    generalize hPI:pyIter=PI
    rcases hT0 with rfl | rfl
    ·have hl1:(s.heap.push (bj w)).IsList l items:=⟨_,hol',rfl,nl,rfl⟩
     wp_walk
     subst hPI
     refine wpAny_pyIter_list hl1 (wpAny_bind (wpAny_runValue ?_))
     refine oQ ((Walks.list hh3 _ l hneI items).toS) s.heap.objs.size hSf (fun i=>ns.getD i 0) hval hb (items.size - 0) 0 _ (by omega) (Nat.zero_le _)
      ⟨⟨_,Heap.get?_push_size _ rfl,rfl,rfl⟩,(hl1.push _)⟩ (l7 (Heap.get?_push_of_some _ hS)) fun s' hm hS'=>?_
     obtain⟨h',tk,rfl,c1,c2⟩:=fin _ s' hm hS'
     exact wpAny_pure (wpAny_pure ⟨rfl,h',tk,rfl,c1,c2⟩)
    ·have hl1:(s.heap.push (bj w)).IsTuple l items:=⟨_,hol',rfl,nl,rfl⟩
     wp_walk
     subst hPI
     refine wpAny_pyIter_tuple hl1 (wpAny_bind (wpAny_runValue ?_))
     refine oQ ((Walks.tuple hh3 _ l hneI items).toS) s.heap.objs.size hSf (fun i=>ns.getD i 0) hval hb (items.size - 0) 0 _ (by omega) (Nat.zero_le _)
      ⟨⟨_,Heap.get?_push_size _ rfl,rfl,rfl⟩,(hl1.push _)⟩ (l7 (Heap.get?_push_of_some _ hS)) fun s' hm hS'=>?_
     obtain⟨h',tk,rfl,c1,c2⟩:=fin _ s' hm hS'
     exact wpAny_pure (wpAny_pure ⟨rfl,h',tk,rfl,c1,c2⟩)
   ·cases r₂ with
    | error e=>exact hr₂
    | ok fl₂=>
     cases fl₂ with
     | ret r=>
      obtain⟨rfl,h',tk,rfl,hS',hk'⟩:=hr₂
      repeat (any_goals (first | assumption | wp_step))
      exact h _ _ hS' hk'
     | _=>exact hr₂.elim
  | _=>exact hr.elim
end
namespace FS
theorem owner:Manifest.owners.lookup (String.ofList ['r','o','t','a','r','e','t','i','_','t','e','s'].reverse)=some Manifest.sig_set_iterator:=by kernel_rfl
theorem slot_next:Slot "set_iterator" "__next__" "set_iterator.__next__" :=
 .of (owner := "set_iterator") (n := "__next__") (by rw [typeLookup_type,builtinLookup_eq_fast];kernel_rfl) (by decide +kernel) (by decide +kernel) (by decide +kernel)
  (by first | exact .inl (by decide +kernel) | exact .inr (by decide +kernel)) (by rw [isSubtype_type];kernel_rfl)
theorem entry_next:entryFor table "set_iterator.__next__" = some Builtin.«set_iterator.__next__»:=entryFor_of_tree (by kernel_rfl)
theorem args_next (a:Value):argsOk "set_iterator.__next__" ⟨[a],[]⟩:=by
 unfold argsOk;rw [signature?_of (id := "set_iterator.__next__") (n:=['_','_','t','x','e','n','_','_']) (o:=['r','o','t','a','r','e','t','i','_','t','e','s']) (by kernel_rfl) owner];kernel_rfl
theorem entry_iter:entryFor table "set.__iter__" = some Builtin.«frozenset.__iter__»:=entryFor_alias (id' := "frozenset.__iter__") (by kernel_rfl) rfl (by decide +kernel) (by kernel_rfl)
theorem slot_iter2:Slot "set_iterator" "__iter__" "set_iterator.__iter__" :=
 .of (owner := "set_iterator") (n := "__iter__") (by rw [typeLookup_type,builtinLookup_eq_fast];kernel_rfl) (by decide +kernel) (by decide +kernel) (by decide +kernel)
  (by first | exact .inl (by decide +kernel) | exact .inr (by decide +kernel)) (by rw [isSubtype_type];kernel_rfl)
theorem entry_iter2:entryFor table "set_iterator.__iter__" = some Builtin.«dict_keyiterator.__iter__»:=entryFor_alias (id' := "dict_keyiterator.__iter__") (by kernel_rfl) rfl (by decide +kernel) (by kernel_rfl)
theorem args_iter2 (a:Value):argsOk "set_iterator.__iter__" ⟨[a],[]⟩:=by
 unfold argsOk;rw [signature?_of (id := "set_iterator.__iter__") (n:=['_','_','r','e','t','i','_','_']) (o:=['r','o','t','a','r','e','t','i','_','t','e','s']) (by kernel_rfl) owner];kernel_rfl
end FS
section
variable {prog:Program} {w:World} {A:Around} {E:Value->Shared->Prop} {s:Shared}
def gh (first:Value) (i:Nat) (a:Addr) (n ep:Nat):Obj:={ cls:=.type "set_iterator", data:=.fields #[first,.int i 0,.ref a,.int n 0,.int ep 0] }
theorem u0 {I a:Addr} {o:Obj} {es:Array (Int×Value)} {ep i slot next:Nat} {t:SetTable} {x:Value} {Q:Option Value->Shared->Prop} (hI:s.heap.get? I=some (gh (.int slot 0) i a es.size ep))
  (ho:s.heap.get? a=some o) (hd:o.data=.set es ep t) (hf:t.fits es.size=true) (hx:∀ (A:Around) (E:Value->Shared->Prop) (Q:Option (Value×Nat)->Shared->Prop),Q (some (x,next)) s->wpAny (model prog w) A (setNext a slot i ep) Q E s)
  (hQ:∀ h',h'.get? I=some (gh (.int next 0) (i+1) a es.size ep)->Heap.SameBut I s.heap h'->Q (some x) { s with heap:=h' }):wpAny (model prog w) A (pyNext (.ref I)) Q E s:=by
 have hT:s.TypeIs (.ref I) "set_iterator" := ⟨_,hI,rfl⟩
 unfold pyNext
 refine wpAny_bind (wpAny_attempt (wpAny_callSpecial?_slot (name:=Str.ofString "__next__") hT FS.slot_next (wpAny_call_entry FS.slot_next hT FS.entry_next ?_ (FS.args_next _))))
 unfold Builtin.«set_iterator.__next__» slotArgs
 simp only [List.isEmpty_nil,Bool.not_true,Bool.false_eq_true,↓reduceIte,bind_assoc,List.length_nil,bne_self_eq_false]
 refine wpAny_bind (wpAny_pure ?_)
 refine wpAny_bind (wpAny_fieldsOf hI rfl ?_)
 dsimp only
 refine wpAny_bind (wpAny_setEntries_of ho hd hf ?_)
 rw [if_neg (by simp)]
 refine wpAny_bind (hx _ _ _ ?_)
 dsimp only
 refine wpAny_bind (wpAny_setField hI rfl (by simp) ?_)
 have e1:(s.heap.update I (Obj.mapFields (·.setIfInBounds 0 (rawInt next)))).get? I=some (gh (.int next 0) i a es.size ep):=Heap.get?_update_self _ hI rfl
 refine wpAny_bind (wpAny_setField e1 rfl (by simp) (wpAny_pure ⟨x,rfl,wpAny_pure (hQ _ (Heap.get?_update_self _ e1 rfl) ((Heap.SameBut.update ..).trans (Heap.SameBut.update ..)))⟩))
theorem xP {I a:Addr} {o:Obj} {es:Array (Int×Value)} {ep i slot:Nat} {t:SetTable} {Q:Option Value->Shared->Prop} (hh:A.handled=none) (hI:s.heap.get? I=some (gh (.int slot 0) i a es.size ep))
  (ho:s.heap.get? a=some o) (hd:o.data=.set es ep t) (hf:t.fits es.size=true) (hx:∀ (A:Around) (E:Value->Shared->Prop) (Q:Option (Value×Nat)->Shared->Prop),Q none s->wpAny (model prog w) A (setNext a slot i ep) Q E s)
  (hQ:∀ h',Heap.ExtBut I s.heap h'->Q none { s with heap:=h' }):wpAny (model prog w) A (pyNext (.ref I)) Q E s:=by
 have hT:s.TypeIs (.ref I) "set_iterator" := ⟨_,hI,rfl⟩
 unfold pyNext
 refine wpAny_bind (wpAny_attempt (wpAny_callSpecial?_slot (name:=Str.ofString "__next__") hT FS.slot_next (wpAny_call_entry FS.slot_next hT FS.entry_next ?_ (FS.args_next _))))
 unfold Builtin.«set_iterator.__next__» slotArgs
 simp only [List.isEmpty_nil,Bool.not_true,Bool.false_eq_true,↓reduceIte,bind_assoc,List.length_nil,bne_self_eq_false]
 refine wpAny_bind (wpAny_pure ?_)
 refine wpAny_bind (wpAny_fieldsOf hI rfl ?_)
 dsimp only
 refine wpAny_bind (wpAny_setEntries_of ho hd hf ?_)
 rw [if_neg (by simp)]
 refine wpAny_bind (hx _ _ _ ?_)
 try dsimp only
 refine wpAny_bind (wpAny_setField hI rfl (by simp) ?_)
 refine wpAny_bind ?_
 simp only [newExc,newTuple]
 refine wpAny_bind (wpAny_newObj_type ?_ (by size_fits))
 refine wpAny_bind (m:=firstArgMember _ _) (wpAny_of_eq (a:=Value.none) (by first | rfl | (simp only [firstArgMember];rfl)) ?_)
 refine wpAny_newObj_type ?_ (by size_fits)
 simp only [raiseNew]
 refine wpAny_bind (wpAny_handled ?_)
 rw [show A.in1.handled=none from hh]
 refine wpAny_bind (wpAny_pure (wpAny_throw ?_))
 refine wpAny_bind (wpAny_isInstance (T := "StopIteration") (b:=true) ⟨_,Heap.get?_push_size _ rfl,rfl⟩ isSubtype_stop ?_)
 exact wpAny_pure (hQ _ (((Heap.SameBut.update ..).extBut.push _).push _))
theorem u9 {I a p:Addr} {o op:Obj} {es:Array (Int×Value)} {ps:Array Value} {ep i np pl:Nat} {u:Tok} {t:SetTable} {hs:Int} {x:Value} {Q:Option Value->Shared->Prop} (hI:s.heap.get? I=some (gh (.ref p) i a es.size ep))
  (ho:s.heap.get? a=some o) (hd:o.data=.set es ep t) (hf:t.fits es.size=true) (hp:s.heap.get? p=some op) (hpd:op.data=.seq ps np) (hpi:ps[i]?=some (.int pl u)) (hx:es[pl]?=some (hs,x))
  (hQ:∀ h',h'.get? I=some (gh (.ref p) (i+1) a es.size ep)->Heap.SameBut I s.heap h'->Q (some x) { s with heap:=h' }):wpAny (model prog w) A (pyNext (.ref I)) Q E s:=by
 have hT:s.TypeIs (.ref I) "set_iterator" := ⟨_,hI,rfl⟩
 unfold pyNext
 refine wpAny_bind (wpAny_attempt (wpAny_callSpecial?_slot (name:=Str.ofString "__next__") hT FS.slot_next (wpAny_call_entry FS.slot_next hT FS.entry_next ?_ (FS.args_next _))))
 unfold Builtin.«set_iterator.__next__» slotArgs
 simp only [List.isEmpty_nil,Bool.not_true,Bool.false_eq_true,↓reduceIte,bind_assoc,List.length_nil,bne_self_eq_false]
 refine wpAny_bind (wpAny_pure ?_)
 refine wpAny_bind (wpAny_fieldsOf hI rfl ?_)
 dsimp only
 refine wpAny_bind (wpAny_setEntries_of ho hd hf ?_)
 rw [if_neg (by simp)]
 try dsimp only
 refine wpAny_bind (wpAny_seqItems hp hpd ?_)
 try dsimp only
 simp only [Int.toNat_natCast,hpi]
 unfold setNextDrawn
 refine wpAny_bind (wpAny_bind (wpAny_setState_of ho hd hf ?_))
 try dsimp only
 rw [if_neg (by simp)]
 simp only [hx]
 refine wpAny_pure (wpAny_bind (wpAny_setField hI rfl (by simp) (wpAny_pure ⟨x,rfl,wpAny_pure (hQ _ (Heap.get?_update_self _ hI rfl) (Heap.SameBut.update ..))⟩)))
theorem xT {I a p:Addr} {o op:Obj} {es:Array (Int×Value)} {ps:Array Value} {ep i np:Nat} {t:SetTable} {Q:Option Value->Shared->Prop} (hh:A.handled=none) (hI:s.heap.get? I=some (gh (.ref p) i a es.size ep))
  (ho:s.heap.get? a=some o) (hd:o.data=.set es ep t) (hf:t.fits es.size=true) (hp:s.heap.get? p=some op) (hpd:op.data=.seq ps np) (hpi:ps[i]?=none)
  (hQ:∀ h',Heap.ExtBut I s.heap h'->Q none { s with heap:=h' }):wpAny (model prog w) A (pyNext (.ref I)) Q E s:=by
 have hT:s.TypeIs (.ref I) "set_iterator" := ⟨_,hI,rfl⟩
 unfold pyNext
 refine wpAny_bind (wpAny_attempt (wpAny_callSpecial?_slot (name:=Str.ofString "__next__") hT FS.slot_next (wpAny_call_entry FS.slot_next hT FS.entry_next ?_ (FS.args_next _))))
 unfold Builtin.«set_iterator.__next__» slotArgs
 simp only [List.isEmpty_nil,Bool.not_true,Bool.false_eq_true,↓reduceIte,bind_assoc,List.length_nil,bne_self_eq_false]
 refine wpAny_bind (wpAny_pure ?_)
 refine wpAny_bind (wpAny_fieldsOf hI rfl ?_)
 dsimp only
 refine wpAny_bind (wpAny_setEntries_of ho hd hf ?_)
 rw [if_neg (by simp)]
 try dsimp only
 refine wpAny_bind (wpAny_seqItems hp hpd ?_)
 try dsimp only
 simp only [Int.toNat_natCast,hpi]
 have e1:(s.heap.update I (Obj.mapFields (·.setIfInBounds 0 (rawInt 0)))).get? I=some (gh (.int 0 0) i a es.size ep):=Heap.get?_update_self _ hI rfl
 refine wpAny_bind (wpAny_setField hI rfl (by simp) (wpAny_bind (wpAny_setField e1 rfl (by simp) ?_)))
 refine wpAny_bind ?_
 simp only [newExc,newTuple]
 refine wpAny_bind (wpAny_newObj_type ?_ (by size_fits))
 refine wpAny_bind (m:=firstArgMember _ _) (wpAny_of_eq (a:=Value.none) (by first | rfl | (simp only [firstArgMember];rfl)) ?_)
 refine wpAny_newObj_type ?_ (by size_fits)
 simp only [raiseNew]
 refine wpAny_bind (wpAny_handled ?_)
 rw [show A.in1.handled=none from hh]
 refine wpAny_bind (wpAny_pure (wpAny_throw ?_))
 refine wpAny_bind (wpAny_isInstance (T := "StopIteration") (b:=true) ⟨_,Heap.get?_push_size _ rfl,rfl⟩ isSubtype_stop ?_)
 exact wpAny_pure (hQ _ ((((Heap.SameBut.update ..).trans (Heap.SameBut.update ..)).extBut.push _).push _))
end
end B
namespace B
open PySem PySem.Spec L2 PyProof.Rows
section
variable {prog:Program} {w:World} {A:Around} {E:Value->Shared->Prop} {s:Shared}
theorem fB {Q:Bool->Shared->Prop} (h:Q (w.params.followText "set-order") s):wpAny (model prog w) A setsByText Q E s:=by
 unfold setsByText
 exact wpAny_bind (wpAny_askSetting (wpAny_pure h))
theorem vW {a:Addr} {o:Obj} {es:Array (Int×Value)} {ep i slot:Nat} {t:SetTable} {Q:Option (Value×Nat)->Shared->Prop} (hb:w.params.followText "set-order" = true) (ho:s.heap.get? a=some o) (hd:o.data=.set es ep t) (hf:t.fits es.size=true)
  (h:Q (((pickOrder (w.params.setOrder a ep) es)[i]?).map fun e=>(e.2,slot)) s):wpAny (model prog w) A (setNext a slot i ep) Q E s:=by
 unfold setNext
 refine wpAny_bind (wpAny_setState_of ho hd hf ?_)
 dsimp only
 refine wpAny_bind (fB ?_)
 rw [hb]
 simp only [↓reduceIte,bne_self_eq_false,Bool.false_eq_true]
 unfold setWalk
 refine wpAny_bind (wpAny_bind (wpAny_setState_of ho hd hf ?_))
 dsimp only
 refine wpAny_bind (fB ?_)
 rw [hb]
 simp only [↓reduceIte]
 exact wpAny_bind (wpAny_askSetting (wpAny_pure (wpAny_pure h)))
theorem zF {a:Addr} {o:Obj} {es:Array (Int×Value)} {ep i slot:Nat} {t:SetTable} {Q:Option (Value×Nat)->Shared->Prop} (hb:w.params.followText "set-order" = false) (hl:t.led=true) (hp:(!t.plain && decide (es.size > 1))=false)
  (ho:s.heap.get? a=some o) (hd:o.data=.set es ep t) (hf:t.fits es.size=true)
  (h:Q (match es[SetTable.below t.place slot]?,t.place[SetTable.below t.place slot]? with | some (_,x),some j=>some (x,j+1) | _,_=>none) s):wpAny (model prog w) A (setNext a slot i ep) Q E s:=by
 unfold setNext
 refine wpAny_bind (wpAny_setState_of ho hd hf ?_)
 dsimp only
 refine wpAny_bind (fB ?_)
 rw [hb]
 simp only [Bool.false_eq_true,↓reduceIte]
 show wpAny _ _ (if (!t.plain && decide (es.size > 1))=true then _ else _) _ _ _
 rw [hp]
 simp only [Bool.false_eq_true,↓reduceIte]
 show wpAny _ _ ((if (!t.led && !es.isEmpty)=true then _ else pure PUnit.unit) >>= _) _ _ _
 rw [hl]
 simp only [Bool.not_true,Bool.false_and,Bool.false_eq_true,↓reduceIte]
 refine wpAny_bind (wpAny_pure (wpAny_pure h))
theorem pz {src:Source} {n:Nat} {Q:Nat->Shared->Prop} (hn:n≠0) (h:∀ i d,i < n->Q i { s with drawn:=d }):wpAny (model prog w) A (choose src n) Q E s:=by
 intro Γ p hΓ
 unfold choose
 rw [Sem.wp_choose]
 exact⟨hn,by rw [Sem.wp_pure];exact h _ _ (Nat.mod_lt _ (Nat.pos_of_ne_zero hn))⟩
theorem jc {α:Type}:∀ (n:Nat) (xs:List α) (s:Shared) (Q:List α->Shared->Prop),xs.length=n->(∀ ys d,List.Perm ys xs->Q ys { s with drawn:=d })->wpAny (model prog w) A (drawOrder n xs) Q E s
 | 0,xs,s,Q,e,h=>by
  unfold drawOrder
  have:=h [] s.drawn (by rw [List.length_eq_zero_iff.mp e])
  exact wpAny_pure this
 | n+1,[],s,Q,e,h=>by simp at e
 | n+1,x :: xs,s,Q,e,h=>by
  unfold drawOrder
  refine wpAny_bind (pz (by simp) fun i d hi=>?_)
  rw [List.getElem?_eq_getElem hi]
  dsimp only
  refine wpAny_bind (jc n _ _ _ (by rw [List.length_eraseIdx_of_lt hi];omega) fun ys d' hy=>wpAny_pure ?_)
  exact h _ d' ((hy.cons _).trans (ja hi))
theorem jy {I:Addr} {first:Value} {i:Nat} {a:Addr} {n ep:Nat} {Q:Value->Shared->Prop} (hI:s.heap.get? I=some (gh first i a n ep)) (h:Q (.ref I) s):wpAny (model prog w) A (pyIter (.ref I)) Q E s:=by
 have hT:s.TypeIs (.ref I) "set_iterator" := ⟨_,hI,rfl⟩
 refine wpAny_pyIter_slot hT FS.slot_iter2 (wpAny_call_entry FS.slot_iter2 hT FS.entry_iter2 ?_ (FS.args_iter2 _))
 show wpAny _ _ (ret (.ref I)) _ _ s
 exact wpAny_pure ⟨_,rfl, "set_iterator", _,hT,FS.slot_next.lookup,h⟩
theorem lx (hh:A.handled=none) {I a:Addr} (hne:a≠I) {o:Obj} {es:Array (Int×Value)} {ep:Nat} {t:SetTable} (hd:o.data=.set es ep t) (hf:t.fits es.size=true) (items:Array Value) (slotf:Nat->Nat)
  (hnx:∀ (A:Around) (E:Value->Shared->Prop) (s:Shared) (Q:Option (Value×Nat)->Shared->Prop) (i:Nat),s.heap.get? a=some o->i≤items.size->Q (items[i]?.map fun x=>(x,slotf (i+1))) s->wpAny (model prog w) A (setNext a (slotf i) i ep) Q E s) :
  WalksS prog w A I [I,a] [I] (fun a b=>b=a) items.size (fun i v=>items[i]?=some v) (fun i s=>s.heap.get? I=some (gh (.int (slotf i) 0) i a es.size ep)/\s.heap.get? a=some o) where
 sub:=fun b hb=>by simp at hb;simp [hb]
 grefl:=fun _=>rfl
 gtrans:=fun _ _ _ h1 h2=>h2.trans h1
 frame:=fun _ _ _ _ st _ hk=>⟨hk I (by simp) _ st.1,hk a (by simp) _ st.2⟩
 item:=fun i s Q E hi st hQ=>by
  refine u0 (next:=slotf (i+1)) (x:=items[i]) st.1 st.2 hd hf (fun A E Q q=>hnx A E s Q i st.2 (Nat.le_of_lt hi) (by rw [Array.getElem?_eq_getElem hi];exact q)) fun h' hI hs=>?_
  refine hQ _ _ (by simp [hi]) ⟨hI,?_⟩ ⟨fun b o hb e=>hs.extBut b o (fun z=>hb (by simp [z])) e,rfl,rfl,rfl,Nat.le_refl _⟩
  exact hs.extBut a o hne st.2
 done:=fun s Q E st hQ=>by
  refine xP hh st.1 st.2 hd hf (fun A E Q q=>hnx A E s Q items.size st.2 (Nat.le_refl _) (by rw [Array.getElem?_eq_none (Nat.le_refl _)];exact q)) fun h' hx=>?_
  exact hQ _ ⟨fun b o hb e=>hx b o (fun z=>hb (by simp [z])) e,rfl,rfl,rfl,Nat.le_refl _⟩
 self:=fun _ _ _ _ st hQ=>jy st.1 hQ
end
section
variable {prog:Program} {w:World} {A:Around} {E:Value->Shared->Prop} {s:Shared}
theorem mE (hh:A.handled=none) {I a p:Addr} (hne:a≠I) (hpe:p≠I) {o op:Obj} {es:Array (Int×Value)} {ep np:Nat} {t:SetTable} (hd:o.data=.set es ep t) (hf:t.fits es.size=true) {ps:Array Value} (hpd:op.data=.seq ps np) (items:Array Value)
  (hz:items.size=ps.size) (hps:∀ (i:Nat) (h:i < items.size),∃ (pl:Nat) (u:Tok) (hs:Int),ps[i]?=some (.int pl u)/\es[pl]?=some (hs,items[i])) :
  WalksS prog w A I [I,a,p] [I] (fun a b=>b=a) items.size (fun i v=>items[i]?=some v) (fun i s=>s.heap.get? I=some (gh (.ref p) i a es.size ep)/\s.heap.get? a=some o/\s.heap.get? p=some op) where
 sub:=fun b hb=>by simp at hb;simp [hb]
 grefl:=fun _=>rfl
 gtrans:=fun _ _ _ h1 h2=>h2.trans h1
 frame:=fun _ _ _ _ st _ hk=>⟨hk I (by simp) _ st.1,hk a (by simp) _ st.2.1,hk p (by simp) _ st.2.2⟩
 item:=fun i s Q E hi st hQ=>by
  obtain⟨pl,u,hs,e1,e2⟩:=hps i hi
  refine u9 st.1 st.2.1 hd hf st.2.2 hpd e1 e2 fun h' hI hs=>?_
  exact hQ _ _ (by simp [hi]) ⟨hI,hs.extBut a o hne st.2.1,hs.extBut p op hpe st.2.2⟩ ⟨fun b o hb e=>hs.extBut b o (fun z=>hb (by simp [z])) e,rfl,rfl,rfl,Nat.le_refl _⟩
 done:=fun s Q E st hQ=>by
  refine xT hh st.1 st.2.1 hd hf st.2.2 hpd (by rw [hz];exact Array.getElem?_eq_none (Nat.le_refl _)) fun h' hx=>?_
  exact hQ _ ⟨fun b o hb e=>hx b o (fun z=>hb (by simp [z])) e,rfl,rfl,rfl,Nat.le_refl _⟩
 self:=fun _ _ _ _ st hQ=>jy st.1 hQ
def Aj (prog:Program) (w:World) (a:Addr) (ks:List Int) (s:Shared) (It:Addr) (s1:Shared):Prop:=
 ∃ (fp:List Addr) (items:Array Value) (St:Nat->Shared->Prop),(∀ A':Around,A'.handled=none->WalksS prog w A' It fp [It] (fun a b=>b=a) items.size (fun i v=>items[i]?=some v) St)/\St 0 s1/\It∈fp/\(∀ b∈fp,b < s1.heap.objs.size/\(b=a∨s.heap.objs.size≤b))∧
  s.heap.objs.size≤It/\∃ ms,IntsAre items.toList ms/\ms.Perm ks
theorem eD:∀ {es:List (Int×Value)},(∀ e∈es,∃ n u,e=(hashInt n,Value.int n u))->IntsAre (es.map (·.2)) (es.map fun e=>j8 e.2)
 | [],_=>.nil
 | e :: es,h=>by
  obtain⟨n,u,rfl⟩:=h e List.mem_cons_self
  exact .cons n u (eD fun x hx=>h x (List.mem_cons_of_mem _ hx))
def qR (t:SetTable):Nat->Nat
 | 0=>0
 | k+1=>t.place.getD k 0+1
theorem nR {t:SetTable} (R:gR t.place) {i:Nat} (h:i≤t.place.size):SetTable.below t.place (qR t i)=i:=by
 cases i with
 | zero=>exact nQ R
 | succ k=>
  have hk:k < t.place.size:=by omega
  show SetTable.below t.place (t.place.getD k 0+1)=k+1
  rw [show t.place.getD k 0=t.place[k] from by simp [Array.getD,hk]]
  exact nS R hk
theorem tY {a:Addr} {ks:List Int} {Q:Value->Shared->Prop} (I:bI w s.heap a ks) (hb:ks.length≤1000)
  (h:∀ (It:Addr) (h':Heap) d,(∀ b o,s.heap.get? b=some o->h'.get? b=some o)->Aj prog w a ks s It { s with heap:=h',drawn:=d }->Q (.ref It) { s with heap:=h',drawn:=d }):wpAny (model prog w) A (pyIter (.ref a)) Q E s:=by
 obtain⟨o,es,ep,t,ho,hx,hd,hs,hp,hf,T,hl⟩:=I
 have hT:s.TypeIs (.ref a) "set" := ⟨o,ho,hx.1⟩
 have hlt:a < s.heap.objs.size:=Heap.lt_size ho
 refine wpAny_pyIter_slot hT PySem.F.slot_set_iter (wpAny_call_entry PySem.F.slot_set_iter hT FS.entry_iter ?_ (PySem.F.args_set_iter_1 _))
 unfold Builtin.«frozenset.__iter__» Builtin.Frozenset.slot0 slotArgs
 simp only [List.isEmpty_nil,Bool.not_true,Bool.false_eq_true,↓reduceIte,bind_assoc,List.length_nil,bne_self_eq_false]
 unfold Builtin.Frozenset.addrOf Builtin.Frozenset.sizeOf
 refine wpAny_bind (wpAny_pure ?_)
 try dsimp only
 refine wpAny_bind (wpAny_pure ?_)
 refine wpAny_bind (wpAny_bind (wpAny_setEntries_of ho hd hf (wpAny_pure ?_)))
 unfold setDrawn
 refine wpAny_bind (wpAny_bind (wpAny_setState_of ho hd hf ?_))
 dsimp only
 refine wpAny_bind (fB (wpAny_pure ?_))
 show wpAny _ _ (if (!w.params.followText "set-order" && (!t.plain && decide (es.size > 1)))=true then _ else _) _ _ _
 have hn:es.size=ks.length:=by rw [← hp.length_eq,List.length_map,Array.length_toList]
 by_cases c:(!w.params.followText "set-order" && (!t.plain && decide (es.size > 1)))=true
 ·rw [if_pos c]
  refine wpAny_bind (jc es.size (List.range es.size) _ _ (by simp) fun ys d hy=>?_)
  refine wpAny_bind (wpAny_newTuple ?_ ?_)
  ·have ho1:(s.heap.push { cls:=.type "tuple", data:=.seq (ys.map fun i:Nat=>rawInt i).toArray }).get? a=some o:=Heap.get?_push_of_some _ ho
   refine wpAny_bind (wpAny_setEpoch_of ho1 hd hf ?_)
   refine wpAny_bind (wpAny_newObj_type ?_ (by size_fits))
   have sz:(s.heap.push { cls:=.type "tuple", data:=.seq (ys.map fun i:Nat=>rawInt i).toArray }).objs.size=s.heap.objs.size+1:=Heap.size_push ..
   refine wpAny_pure ⟨_,rfl, "set_iterator", _,⟨_,Heap.get?_push_size _ rfl,rfl⟩,FS.slot_next.lookup,h _ _ d (fun b o e=>Heap.get?_push_of_some _ (Heap.get?_push_of_some _ e)) ?_⟩
   have hmem:∀ i∈ys,i < es.size:=fun i hi=>List.mem_range.mp (hy.mem_iff.mp hi)
   have yl:ys.length=es.size:=by rw [hy.length_eq,List.length_range]
   have hpe:s.heap.objs.size≠(s.heap.push { cls:=.type "tuple", data:=.seq (ys.map fun i:Nat=>rawInt i).toArray }).objs.size:=by rw [sz];exact Nat.ne_of_lt (Nat.lt_succ_self _)
   have hne:a≠(s.heap.push { cls:=.type "tuple", data:=.seq (ys.map fun i:Nat=>rawInt i).toArray }).objs.size:=by rw [sz];exact Nat.ne_of_lt (Nat.lt_succ_of_lt hlt)
   refine⟨_,(ys.map fun i=>(es.getD i (0,.none)).2).toArray,_,fun A' hh=>mE (p:=s.heap.objs.size) hh hne hpe hd hf (ps:=(ys.map fun i:Nat=>rawInt i).toArray) rfl _ (by simp) fun i hi=>?_,
    ⟨Heap.get?_push_size _ rfl,Heap.get?_push_of_some _ ho1,Heap.get?_push_of_some _ (Heap.get?_push_size _ rfl)⟩,by simp,fun b hb=>?_,by rw [sz];exact Nat.le_succ _,?_⟩
   ·have hi':i < ys.length:=by simpa using hi
    have hm:=hmem _ (List.getElem_mem hi')
    refine⟨ys[i],0,(es[ys[i]]).1,?_,?_⟩
    ·simp [hi',rawInt]
    ·rw [Array.getElem?_eq_getElem hm]
     simp [Array.getD,hm]
   ·rw [Heap.size_push,sz]
    simp only [List.mem_cons,List.not_mem_nil,or_false] at hb
    rcases hb with rfl | rfl | rfl
    ·rw [sz];exact⟨Nat.lt_succ_self _,.inr (Nat.le_succ _)⟩
    ·exact⟨Nat.lt_succ_of_lt (Nat.lt_succ_of_lt hlt),.inl rfl⟩
    ·exact⟨Nat.lt_succ_of_lt (Nat.lt_succ_self _),.inr (Nat.le_refl _)⟩
   ·refine⟨ys.map fun i=>j8 (es.getD i (0,.none)).2,?_,?_⟩
    ·have all:∀ {zs:List Nat},(∀ i∈zs,i < es.size)->IntsAre (zs.map fun i=>(es.getD i (0,.none)).2) (zs.map fun i=>j8 (es.getD i (0,.none)).2):=by
      intro zs hz
      have:=eD (es:=zs.map fun i=>es.getD i (0,.none)) fun e he=>by
       obtain⟨i,hi,rfl⟩:=List.mem_map.mp he
       have hm:=hz i hi
       rw [show es.getD i (0,.none)=es[i] from by simp [Array.getD,hm]]
       exact hs _ (by simp)
      rw [List.map_map,List.map_map] at this
      exact this
     simpa using all hmem
    ·refine (hy.map _).trans ?_
     have e:(List.range es.size).map (fun i=>j8 (es.getD i (0,.none)).2)=es.toList.map fun e=>j8 e.2:=by
      apply List.ext_getElem
      ·simp
      ·intro i h1 h2
       have hm:i < es.size:=by simpa using h2
       simp [Array.getD,hm]
     rw [e]
     exact hp
  ·rw [List.length_map,hy.length_eq,List.length_range,hn]
   exact Nat.le_trans hb (by decide)
 ·rw [if_neg c]
  refine wpAny_bind (wpAny_pure (wpAny_bind (wpAny_setEpoch_of ho hd hf (wpAny_bind (wpAny_newObj_type ?_ (by size_fits))))))
  have keep:∀ b o,s.heap.get? b=some o->(s.heap.push (gh (.int 0 0) 0 a es.size ep)).get? b=some o:=fun b o e=>Heap.get?_push_of_some _ e
  refine wpAny_pure ⟨_,rfl, "set_iterator", _,⟨_,Heap.get?_push_size _ rfl,rfl⟩,FS.slot_next.lookup,h s.heap.objs.size _ s.drawn keep ?_⟩
  have hne:a≠s.heap.objs.size:=Nat.ne_of_lt hlt
  have sz:(s.heap.push (gh (.int 0 0) 0 a es.size ep)).objs.size=s.heap.objs.size+1:=Heap.size_push ..
  have hfp:∀ b∈[s.heap.objs.size,a],b < (s.heap.push (gh (.int 0 0) 0 a es.size ep)).objs.size/\(b=a∨s.heap.objs.size≤b):=fun b hb=>by
   rw [sz]
   simp only [List.mem_cons,List.not_mem_nil,or_false] at hb
   rcases hb with rfl | rfl
   ·exact⟨Nat.lt_succ_self _,.inr (Nat.le_refl _)⟩
   ·exact⟨Nat.lt_succ_of_lt hlt,.inl rfl⟩
  cases bt:w.params.followText "set-order" with
  | true=>
   refine⟨_,(pickOrder (w.params.setOrder a ep) es).map (·.2),_,fun A' hh=>lx hh hne hd hf _ (fun _=>0) fun A E s Q i hs' hi q=>?_,⟨Heap.get?_push_size _ rfl,keep _ _ ho⟩,by simp,hfp,Nat.le_refl _,?_⟩
   ·refine vW bt hs' hd hf ?_
    rw [Array.getElem?_map,Option.map_map] at q
    exact q
   ·have pp:=pQ (w.params.setOrder a ep) es
    refine⟨_,?_,(pp.map fun e=>j8 e.2).trans hp⟩
    rw [Array.toList_map]
    exact eD fun e he=>hs e (pp.mem_iff.mp he)
  | false=>
   rw [bt] at c hl
   have c':(!t.plain && decide (es.size > 1))=false:=by simpa using c
   have R:gR t.place:=by
    cases pl:t.plain with
    | true=>exact (T pl).2
    | false=>
     rw [pl] at c'
     have h1:¬ es.size > 1:=by simpa using c'
     intro i j q hj
     have:t.place.size=es.size:=by
      unfold SetTable.fits at hf
      simp only [Bool.and_eq_true,beq_iff_eq,decide_eq_true_eq] at hf
      exact hf.1
     omega
   have hps:t.place.size=es.size:=by
    unfold SetTable.fits at hf
    simp only [Bool.and_eq_true,beq_iff_eq,decide_eq_true_eq] at hf
    exact hf.1
   refine⟨_,es.map (·.2),_,fun A' hh=>lx hh hne hd hf _ (qR t) fun A E s Q i hs' hi q=>?_,⟨Heap.get?_push_size _ rfl,keep _ _ ho⟩,by simp,hfp,Nat.le_refl _,?_⟩
   ·rw [Array.size_map] at hi
    refine zF bt hl c' hs' hd hf ?_
    rw [nR R (by omega)]
    rw [Array.getElem?_map,Option.map_map] at q
    by_cases z:i < es.size
    ·rw [Array.getElem?_eq_getElem z] at q ⊢
     rw [Array.getElem?_eq_getElem (show i < t.place.size by omega)]
     have:qR t (i+1)=t.place[i]'(by omega)+1:=by
      show t.place.getD i 0+1=_
      simp [Array.getD,show i < t.place.size by omega]
     simp only [Option.map_some,Function.comp_apply] at q
     rw [this] at q
     exact q
    ·rw [Array.getElem?_eq_none (by omega)] at q ⊢
     exact q
   ·refine⟨_,?_,hp⟩
    rw [Array.toList_map]
    exact eD hs
end
def Ea (K:PySem.W.Frag):V->List V->Hp->VK->Prop:=fun x vs H Q=>∃ l b xs zs,x=.ref l/\vs=[.ref b]/\H l=some (.lst xs)/\bS K H b zs/\xs.length+zs.length≤1000/\Q .non (ax H l (.lst (xs++zs)))
theorem i4:∀ {ns:List Int} {us:List Value},aR (ns.map V.int) us->IntsAre us ns
 | [],[],_=>.nil
 | i :: ns,u :: us,h=>by
  cases h with
  | cons a t=>
   obtain⟨k,rfl⟩:=(show ∃ k,u=Value.int i k from a)
   exact .cons i k (i4 t)
theorem oM:∀ {ns:List Int} {us:List Value},IntsAre us ns->aR (ns.map V.int) us
 | _,_,.nil=>.nil
 | _,_,.cons n t h=>.cons ⟨t,rfl⟩ (oM h)
def DZ (K:PySem.W.Frag):List V->Hp->VK->Prop:=fun xs H Q=>∃ p ns,xs=[.ref p]/\(aF K H p (ns.map V.int)∨bS K H p (ns.map V.int))/\ns.length < 64/\∀ (l:Addr) (ms:List Int),ms.Perm ns->ms.Pairwise (·≤·)->H l=none->Q (.ref l) (ax H l (.lst (ms.map V.int)))
section
variable {prog:Program} {w:World} {A:Around} {E:Value->Shared->Prop} {s:Shared}
theorem v8 {acc items:Array Value} {ms:List Int} (h:IntsAre items.toList ms) (hi:ItemsOf (fun i v=>items[i]?=some v) acc items.size):IntsAre acc.toList ms:=by
 have e:acc=items:=by
  apply Array.ext_getElem?
  intro i
  by_cases c:i < acc.size
  ·have:=hi.2 i acc[i] (Array.getElem?_eq_getElem c)
   rw [this,Array.getElem?_eq_getElem c]
  ·rw [Array.getElem?_eq_none (by omega),Array.getElem?_eq_none (by have:=hi.1;omega)]
 rw [e];exact h
theorem mm {a:Addr} {ks:List Int} {Q:List Value->Shared->Prop} (hh:A.handled=none) (I:bI w s.heap a ks) (hb:ks.length≤1000)
  (h:∀ (items:List Value) (ms:List Int) h' d tk,IntsAre items ms->ms.Perm ks->(∀ b o,s.heap.get? b=some o->h'.get? b=some o)->Q items { s with heap:=h',drawn:=d,toks:=tk }):wpAny (model prog w) A (collect (.ref a)) Q E s:=by
 have hlt:a < s.heap.objs.size:=by obtain⟨o,_,_,_,ho,_⟩:=I;exact Heap.lt_size ho
 have hSa:s.heap.objs.size≠a:=Nat.ne_of_gt hlt
 unfold collect
 refine wpAny_bind (wpAny_runValue (codeAny_builtin PySem.F.entry_proto_collect ?_))
 rw [Around.under_plainId PySem.F.plain_proto_collect _]
 show wpAny _ A.in1 (newList [] >>= fun l=>again (.builtin "list.__iadd__" ⟨[l,.ref a],[]⟩)) _ _ s
 refine wpAny_bind (wpAny_newObj_type ?_)
 refine wpAny_pure ⟨plainId_quiet PySem.F.plain_list_iadd _,codeAny_builtin PySem.F.entry_list_iadd ?_⟩
 rw [Around.under_plainId PySem.F.plain_list_iadd _]
 have I1:bI w (s.heap.push { cls:=.type "list", data:=.seq ([]:List Value).toArray }) a ks:=I.at fun o e=>Heap.get?_push_of_some _ e
 have hS₁:(s.heap.push { cls:=.type "list", data:=.seq ([]:List Value).toArray }).get? s.heap.objs.size=some { cls:=.type "list", data:=.seq ([]:List Value).toArray }:=Heap.get?_push_size _ rfl
 show wpAny _ A.in1 (Builtin.List.listExtendWith (.ref s.heap.objs.size) (.ref a) (.ref s.heap.objs.size)) _ _ _
 unfold Builtin.List.listExtendWith
 have tys:∀ (h:Heap) (s1:Shared),bI w h a ks->s1.heap=h->s1.TypeIs (.ref a) "set" := fun h s1 J e=>by
  obtain⟨o,_,_,_,ho,hx,_⟩:=J
  exact⟨o,by rw [e];exact ho,hx.1⟩
 refine wpAny_bind (wpAny_typeOf (tys _ _ I1 rfl) ?_)
 have h1:Builtin.List.listSameRef (.ref s.heap.objs.size) (.ref a)=false:=by simp [Builtin.List.listSameRef,hSa]
 have h2:(Value.type "set" == Value.type "list")=false:=by decide
 have h3:(Value.type "set" == Value.type "tuple")=false:=by decide
 simp only [h1,h2,h3,Bool.or_false,Bool.false_eq_true,if_false]
 refine wpAny_bind (tY (prog:=prog) I1 hb fun It h' d keep W=>?_)
 obtain⟨fp,items,St,W,st,hI,hfp,hge,ms,hms,hpm⟩:=W
 have sz:(s.heap.push { cls:=.type "list", data:=.seq ([]:List Value).toArray }).objs.size=s.heap.objs.size+1:=Heap.size_push ..
 refine wpAny_bind (wpAny_holding ?_)
 unfold Builtin.List.listLengthHint
 have I2:bI w h' a ks:=I1.at fun o e=>keep a o e
 have t2:=tys h' { s with heap:=h',drawn:=d } I2 rfl
 refine wpAny_bind (wpAny_specialOf t2 PySem.F.slot_set_len.lookup ?_)
 (generalize wd:("set.__len__" : String)=id0;(fail_if_success (clear wd id0));wp_delta;rw [show splitId id0=some ("set", "__len__") from by subst wd;decide +kernel];subst wd)
 refine wpAny_bind (wpAny_isInstance (b:=true) t2 sub_set_self ?_)
 show wpAny _ A.in1 (typeOf (Value.ref a) >>= _) _ _ _
 refine wpAny_bind (wpAny_typeOf t2 (wpAny_pure ?_))
 have hS2:h'.get? s.heap.objs.size=some { cls:=.type "list", data:=.seq ([]:List Value).toArray }:=keep _ _ hS₁
 have hSf:s.heap.objs.size∉fp:=fun hm=>by
  rcases (hfp _ hm).2 with e | e
  ·exact hSa e
  ·rw [sz] at e;exact Nat.not_succ_le_self _ e
 show wpAny _ A.in1 (rule "list.extend.makes-room" >>= fun _=>Builtin.List.listTouch (.ref s.heap.objs.size) >>= fun _=>
  again (.builtin "list.extend.loop" ⟨[.ref s.heap.objs.size,.ref It,.ref s.heap.objs.size],[]⟩)) _ _ _
 refine wpAny_bind (wpAny_rule (wpAny_bind ?_))
 show wpAny _ A.in1 (updateSeq s.heap.objs.size (·.push .none) >>= fun _=>updateSeq s.heap.objs.size (·.pop)) _ _ _
 refine wpAny_bind (wpAny_updateSeq hS2 rfl ?_)
 have hS3:=Heap.get?_update_self (Obj.mapSeq (·.push Value.none)) hS2 rfl
 refine wpAny_updateSeq hS3 rfl ?_
 have hS4:=Heap.get?_update_self (Obj.mapSeq (·.pop)) hS3 rfl
 have oth:∀ b o,b≠s.heap.objs.size->h'.get? b=some o->((h'.update s.heap.objs.size (Obj.mapSeq (·.push Value.none))).update s.heap.objs.size (Obj.mapSeq (·.pop))).get? b=some o:=
  fun b o hb e=>(Heap.get?_update_other _ _ (Ne.symm hb)).trans ((Heap.get?_update_other _ _ (Ne.symm hb)).trans e)
 have hn:items.size≤sizeLine:=by
  rw [← Array.length_toList,IntsAre.length hms,hpm.length_eq]
  exact Nat.le_trans hb (by decide)
 have W1:=W A.in1 (by simp [hh])
 refine wpAny_pure ⟨plainId_quiet PySem.F.plain_extend_loop _,codeAny_extend_loopS W1 hn _ hSf _ items.size 0 _ _ _ rfl (Nat.zero_le _)
  (W1.frame 0 ({ s with heap:=h',drawn:=d }:Shared) _ s.toks st (Nat.le_refl _) fun b hb o e=>oth b o (fun h=>hSf (h ▸ hb)) e) hS4 (ItemsOf.nil _) fun s' acc' c' hm hS' hacc=>?_⟩
 show wpAny _ A (load s.heap.objs.size >>= _) _ _ s'
 refine wpAny_bind (wpAny_load hS' (wpAny_pure ?_))
 obtain⟨h3,g3,d3,t3,o3⟩:=s'
 obtain rfl:g3=s.gens:=hm.gens
 obtain rfl:d3=d:=hm.drawn
 obtain rfl:o3=s.os:=hm.os
 refine h acc'.toList ms h3 d3 t3 (v8 hms hacc) hpm fun b o e=>?_
 have hb1:b < s.heap.objs.size:=Heap.lt_size e
 refine hm.heap b o ?_ (oth b o (Nat.ne_of_lt hb1) (keep b o (Heap.get?_push_of_some _ e)))
 simp only [List.mem_cons,List.not_mem_nil,or_false,not_or]
 exact⟨Nat.ne_of_lt hb1,Nat.ne_of_lt (Nat.lt_of_lt_of_le hb1 (Nat.le_trans (Nat.le_succ _) (show s.heap.objs.size+1≤It from by rw [← sz];exact hge)))⟩
end
theorem Inv.drew {X:Cx} {pins:List (Addr×Obj)} {σ:L2.St} {H:Hp} {s:Shared} (d:Drawn) (I:L2.Inv X pins σ H s):L2.Inv X pins σ H { s with drawn:=d }:=
 ⟨I.ok,I.os,I.bare,I.base,I.loc,I.cell,I.free,I.freeC,I.pin,I.hok,I.len⟩
def setO (w:World) (a:Addr) (ks:List Int):HO:=.ext fun h=>bI w h a ks
theorem u8 {P:Program} {w:World} {H:Hp} {h:Heap} {a:Addr} {ks:List Int} (e:bI w h a ks):bf P w H h a (setO w a ks):=
 ⟨e,let ⟨o,_,_,_,q,_⟩:=e;⟨o,q⟩,fun _ _ q k=>q.at k⟩
def xh (w:World) (K:PySem.W.Frag):List V->Hp->VK->Prop:=fun xs H Q=>∃ p ns,xs=[.ref p]/\(aF K H p (ns.map V.int)∨bS K H p (ns.map V.int))/\ns.length≤1000/\∀ l,H l=none->Q (.ref l) (ax H l (setO w l (bG ns)))
theorem qg {X:Cx} (hc:X.calm=true):cB X (.type "set") (xh X.w X.K):=by
 intro pins s σ H xs us Q I r h
 obtain⟨p,ns,rfl,hq,hz,q⟩:=h
 obtain⟨u,rfl,rx⟩:=eJ r
 cases rx
 have go:∀ (its:List Value) (T:String) (o:Obj) (n:Nat),aR (ns.map V.int) its->(T = "list" ∨ T = "tuple")->s.heap.get? p=some o->o.cls=.type T->o.data=.seq its.toArray n→
   wpAny (model X.prog X.w) X.A (call (.type "set") [.ref p]) (EP X pins σ Q) X.xe s:=fun its T o n rv hT ho hc' hd=>by
  have hl:=rv.length
  rw [List.length_map] at hl
  refine wc (ns:=ns) hT (I.ok.hd hc) ho hc' hd (by simpa using i4 rv) (by rw [List.size_toArray,← hl];unfold scanBound;omega) fun h' tk hS hk=>?_
  exact⟨.ref s.heap.objs.size,_,I.laid (a:=s.heap.objs.size) (o:=setO X.w s.heap.objs.size (bG ns)) (t':=tk) (fun b o e=>hk b o (Heap.lt_size e) e) (Nat.le_refl _) (u8 hS),rfl,q _ (I.hok.fresh (Nat.le_refl _))⟩
 rcases hq with hq | hq
 ·obtain⟨its,r',pl,_⟩:=I.list hq
  obtain⟨o,ho,hc',n,hd⟩:=pl.isList
  exact go its "list" o n r' (.inl rfl) ho hc' hd
 ·obtain⟨its,r',⟨o,ho,hc',n,hd⟩,_⟩:=I.tuple hq
  exact go its "tuple" o n r' (.inr rfl) ho hc' hd
def sd (w:World):List V->Hp->VK->Prop:=fun xs H Q=>∃ p ks,xs=[.ref p]/\H p=some (setO w p ks)/\ks.length < 64/\∀ (l:Addr) (ms:List Int),ms.Perm ks->ms.Pairwise (·≤·)->H l=none->Q (.ref l) (ax H l (.lst (ms.map V.int)))
theorem kQ {X:Cx} (hc:X.calm=true):cB X (.builtin "sorted") (sd X.w):=by
 intro pins s σ H xs us Q I r h
 obtain⟨p,ks,rfl,hp,h64,q⟩:=h
 obtain⟨u,rfl,rx⟩:=eJ r
 cases rx
 have S:bI X.w s.heap p ks:=(show bf X.prog X.w H s.heap p (setO X.w p ks) from I.hok p _ hp).1
 refine Calls.call_function_entry kind_sorted plain_sorted entry_sorted (args_sorted1 (.ref p)) ?_
 unfold Builtin.«sorted»
 refine wpAny_bind (m:=checkCount "sorted" 1 1 _) (wpAny_pure (wpAny_bind (mm (by simp [I.ok.hd hc]) S (by omega) fun its ns h1 d tk hi hpm kp=>?_)))
 have hln:its.length < 64:=by rw [IntsAre.length hi,hpm.length_eq];exact h64
 have sz:its.length≤sizeLine:=Nat.le_trans (Nat.le_of_lt hln) (by decide)
 refine wpAny_bind (wpAny_newList ?_ sz)
 have hoL:(h1.push (seqObj "list" its.toArray 0)).get? h1.objs.size=some (seqObj "list" its.toArray 0):=Heap.get?_push_size _ rfl
 show wpAny _ _ _ _ _ { s with heap:=h1.push (seqObj "list" its.toArray 0),drawn:=d,toks:=tk }
 refine wpAny_bind (wpAny_holding (wpAny_call_entry slot_list_sort ⟨_,hoL,rfl⟩ entry_list_sort (list_sort_tree hoL (by simpa using hi) hln fun out ms a1 a2 a3=>⟨_,rfl,wpAny_pure ⟨_,rfl,?_⟩⟩) (args_list_sort _)))
 have I1:L2.Inv X pins σ H { s with heap:=h1,drawn:=d,toks:=tk }:=Inv.drew d (I.kept (t':=tk) kp)
 obtain⟨ep,he⟩:=sortedHeap_at (out:=out) hoL
 have lm:(ms.map V.int).length≤sizeLine:=by rw [List.length_map,a2.length_eq,hpm.length_eq];exact Nat.le_trans (Nat.le_of_lt h64) (by decide)
 refine⟨.ref h1.objs.size,_,I1.laid (a:=h1.objs.size) (o:=.lst (ms.map V.int)) (t':=tk) (fun b u hb=>?_) (Nat.le_refl _) ⟨lm,out.toList,ep,oM a1,by simpa using he⟩,rfl,q _ ms (a2.trans hpm) a3 (I1.hok.fresh (Nat.le_refl _))⟩
 have hlt:b < h1.objs.size:=Heap.lt_size hb
 rw [sortedHeap_old (Nat.ne_of_lt hlt) (by rw [size_push'];exact Nat.lt_succ_of_lt hlt)]
 exact Heap.get?_push_of_some _ hb
def DK (ta:TA):TE:=fun σ H Q=>ta σ H fun vs H1=>∃ i j:Int,vs=[.int i,.int j]/\∀ p,H1 p=none->Q (.ref p) (ax H1 p (.rng i j))
def Cw:R2:=fun x y H Q=>∃ (i:Int) (p:Addr) (lo hi:Int),x=.int i/\y=.ref p/\H p=some (.rng lo hi)/\Q (.bl (!(decide (lo≤i) && decide (i < hi)))) H
section
set_option autoImplicit true
set_option relaxedAutoImplicit true
end
def BZ (lo n:Nat):List Nat:=(List.range n).map fun i=>lo+i
def E9:List V->Hp->VK->Prop:=fun xs H Q=>∃ p,∃ lo n:Nat,xs=[.ref p]/\H p=some (.rng (lo:Int) ((lo+n:Nat):Int))/\lo+n≤1000/\∀ l,H l=none->Q (.ref l) (ax H l (.lst ((BZ lo n).map fun i:Nat=>V.int i)))
theorem ql:bootBuiltins "set" = some (.type "set"):=by kernel_rfl
theorem dZ {α β:Type} {K:PySem.W.Frag} {H:Hp} {D a:Addr} {xs:List V} {ds:List α} {P:Hp->V->β->Prop} {f:α->β} {src:List (Option Nat)} {σ:L2.St} {g:TG} {tt:TT} {te:TE} {Q:Hp->Prop}
  (mono:∀ H H' v d,be K H H'->P H v d->P H' v d) (hD:H D=none) (hS:aF K H a xs) (hl:xs.length=ds.length) (hn:ds.length≤1000)
  (turn:∀ (i:Nat) (x:V) (d:α) (H':Hp),xs[i]?=some x->ds[i]?=some d->az H H'->∀ (R:VK) (E:Hp->Prop),(∀ v H'',az H' H''->P H'' v (f d)->R v H'')→
   g x (bC src σ) H' fun σ2 H2=>dM (bC src σ) σ2/\tt σ2 H2 fun ok H3=>if ok=true then te σ2 H3 R else E H3)
  (fin:∀ H' ys,az H H'->H' D=some (.lst ys)->cQ (P H') ys (ds.map f)->Q H') :
  ∃ W:Nat->Nat->List V->Hp->Prop,(∃ m,W 0 m [] (ax H D (.lst [])))/\∀ i m ys H,W i m ys H->((oh K a).stop i H/\Q H)∨((oh K a).go i H/\∀ x H',(oh K a).yld i H x H'→
   g x (bC src σ) H' fun σ2 H2=>dM (bC src σ) σ2/\tt σ2 H2 fun ok H3=>
    if ok=true then te σ2 H3 fun y H4=>H4 D=some (.lst ys)/\ys.length < sizeLine/\∃ m',m' < m/\W (i+1) m' (ys++[y]) (ax H4 D (.lst (ys++[y]))) else ∃ m',m' < m/\W (i+1) m' ys H3):=by
 refine⟨fun i m ys H'=>i≤ds.length/\m=ds.length - i/\H' D=some (.lst ys)/\az H H'/\cQ (P H') ys ((ds.take i).map f),⟨_,Nat.zero_le _,rfl,ae,ai hD _,.nil⟩,?_⟩
 rintro i m ys H1 ⟨hi,rfl,d1,s1,al1⟩
 have hS1:aF K H1 a xs:=s1.seq hS
 by_cases hix:i < ds.length
 ·have hx0:xs[i]?=some (xs[i]'(by omega)):=List.getElem?_eq_getElem _
  refine .inr ⟨⟨xs,_,hS1,hx0⟩,?_⟩
  rintro x H2 ⟨rfl,hy⟩
  have hx:=hy xs hS1
  obtain⟨d,hd⟩:∃ d,ds[i]?=some d:=⟨_,List.getElem?_eq_getElem hix⟩
  refine turn i x d _ hx hd s1 _ _ fun v H3 s3 p3=>?_
  have d3:H3 D=some (.lst ys):=s3 _ _ d1
  have tm:be K H2 (ax H3 D (.lst (ys++[v]))):=(be.same s3).trans (be.up d3 _)
  refine⟨d3,aZ (by rw [al1.len,List.length_map,List.length_take];omega),ds.length - (i+1),by omega,hix,rfl,ae,fun b o q=>?_,?_⟩
  ·rw [aj (ay q hD)]
   exact s3 _ _ (s1 _ _ q)
  ·rw [List.take_add_one,hd,List.map_append]
   exact (al1.mono fun v d p=>mono _ _ _ _ tm p).snoc (mono _ _ _ _ (be.up d3 _) p3)
 ·have e:i=ds.length:=by omega
  subst e
  rw [List.take_length] at al1
  exact .inl ⟨⟨xs,hS1,by omega⟩,fin H1 ys s1 d1 al1⟩
theorem nO {X:Cx} {w:World} (hw:X.w=w) (hc:X.calm=true):cB X (.type "set") (xh w X.K):=hw ▸ qg hc
theorem jw {X:Cx} {w:World} (hw:X.w=w) (hc:X.calm=true):cB X (.builtin "sorted") (sd w):=hw ▸ kQ hc
theorem jW:∀ {bs:List Bool} {us:List Value},aR (bs.map V.bl) us->∀ {i:Nat} {v:Value},us[i]?=some v->v=.bool (bs.getD i false)
 | [],_,.nil,i,v,e=>by cases e
 | b :: bs,_,.cons r t,0,v,e=>by
  rw [List.getElem?_cons_zero] at e
  cases e
  exact (show _=Value.bool b from r)
 | b :: bs,_,.cons r t,i+1,v,e=>by
  rw [List.getElem?_cons_succ] at e
  exact jW t e
theorem j1:∀ (bs:List Bool),(List.range bs.length).any (fun i=>bs.getD i false)=bs.any id
 | []=>rfl
 | b :: bs=>by
  rw [List.length_cons,List.range_succ_eq_map,List.any_cons,List.any_map,List.any_cons]
  have:=j1 bs
  show (b || (List.range bs.length).any (fun i=>bs.getD i false))=(id b || bs.any id)
  rw [this];rfl
theorem qk {X:Cx} (hc:X.calm=true):cB X (.builtin "any") (fun xs H Q=>∃ (p:Addr) (bs:List Bool),xs=[.ref p]/\aF X.K H p (bs.map V.bl)/\Q (.bl (bs.any id)) H):=by
 intro pins s σ H xs us Q I r h
 obtain⟨p,bs,rfl,hq,q⟩:=h
 obtain⟨u,rfl,rx⟩:=eJ r
 cases rx
 obtain⟨its,rv,pl,hz⟩:=I.list hq
 have ne:p≠s.heap.objs.size:=by
  obtain⟨o,ho,_⟩:=pl.isList
  exact Nat.ne_of_lt (Heap.lt_size ho)
 have hlen:its.toArray.size=bs.length:=by rw [List.size_toArray,← rv.length,List.length_map]
 refine call_any_walk (wpAny_pyIter_list pl.isList ?_)
 refine⟨_,_,_,_,_,_,fun i=>bs.getD i false,rfl,Walks.list (A:=X.A.in1) (I.ok.hd hc) _ p ne its.toArray,⟨⟨_,Heap.get?_push_size _ rfl,rfl,rfl⟩,pl.isList.push _⟩,fun i v s' Q' E' hv hQ=>?_,fun h' tk hk=>?_⟩
 ·have e:=jW rv (i:=i) (v:=v) (by simpa using hv)
  subst e
  exact wpAny_truthy_bool hQ
 ·rw [hlen,j1]
  refine⟨.bl _,H,I.kept (t':=tk) fun b o e=>hk b o (fun z=>?_) (Heap.get?_push_of_some _ e),rfl,q⟩
  rw [List.mem_singleton.mp z] at e
  exact absurd (Heap.lt_size e) (Nat.lt_irrefl _)
def DT (te:TE) (i:Nat):TS:=fun D σ H=>te σ H fun x H1=>∃ σ',σ.set i (some x)=σ'/\D.nx σ' H1
section
variable {prog:Program} {w:World} {A:Around} {E:Value->Shared->Prop} {s:Shared}
end
section
variable {X:Cx} {pins:List (Addr×Obj)} {σ:L2.St} {H:Hp} {A:Around} {E:Value->Shared->Prop} {a kS:Addr} {vs:List Value} {kz:List Int} {f:Value} {e1:Nat}
def CI (X:Cx) (σ:L2.St) (H:Hp) (A:Around) (f:Value) (vs:List Value) (kz:List Int):Prop:=
 ∀ (i:Nat) (v:Value) (k:Int),vs[i]?=some v->kz[i]?=some k->∀ (pins:List (Addr×Obj)) (s:Shared),Inv X pins σ H s→
  wpAny (model X.prog X.w) A (call f [v]) (fun u s2=>(∃ t,u=.int k t)/\Inv X pins σ H s2) (fun _ _=>False) s
end
def yt (sp:Sp) (key:Nat->Int):List V->Hp->VK->Prop:=fun xs H Q=>∃ (p:Addr) (n:Nat),xs=[.ref p]/\H p=some (.rng 0 n)/\n < 64/\(∀ i < n,∀ (Qk:VK),Qk (.int (key i)) H->sp [.int (i:Nat)] H Qk fun _ _ _=>False)∧
 ∀ (l:Addr) (ms:List Nat),ms.Perm (List.range n)->ms.Pairwise (fun a b=>key a≤key b)->H l=none->Q (.ref l) (ax H l (.lst (ms.map fun i:Nat=>V.int i)))
def CP (sp:Sp) (key:Nat->Int) (t:TA):TE:=fun σ H Q=>t σ H fun vs H1=>yt sp key vs H1 Q
def D3:V->List V->Hp->VK->Prop:=fun x vs H Q=>∃ (l:Addr) (ns:List Nat) (j k:Nat),x=.ref l/\vs=[.int (k:Int)]/\H l=some (.lst (ns.map fun i:Nat=>V.int i))/\ns[j]?=some k/\(∀ m,m < j->ns[m]?≠some k)/\Q .non (ax H l (.lst ((ns.eraseIdx j).map fun i:Nat=>V.int i)))
def FT (k:Int):Value->Bool
 | .int i _=>i == k
 | _=>false
def lj (X:Cx) (N':List Str) (scope:Scope) (y:Str) (cl:List (Str×Addr)) (C:Addr) (fp:List Addr) (pins:List (Addr×Obj)) (s:Shared) (H:Hp):Cx:=
 { X with N:=N',s₀:=s,H₀:=H,env:=compEnvC scope ((y,C+1) :: cl) C X.env,outer:=X.stack,stack:=X.stack,ex:=fp,fn:=fun z=>z == y,pn:=X.pn++pins,xe:=fun _ _=>False }
structure gS (X:Cx) (scope:Scope) (y:Str) (cl:List (Str×Addr)):Prop where
 has:∀ x,((compEnvC scope cl 0 X.env).kindOf x=some .cell∨(compEnvC scope cl 0 X.env).kindOf x=some .free)->x=y∨∃ c,cl.lookup x=some c
 up:∀ x c,cl.lookup x=some c->X.env.cells.lookup x=some c
 no:cl.lookup y=none
theorem qf {X:Cx} {scope:Scope} {y:Str} {cl:List (Str×Addr)} (h1:((relabel scope X.env).names.all fun z=>!(z.2 == .cell || z.2 == .free) || (z.1 == y) || (cl.lookup z.1).isSome)=true) (h2:fF X cl) (h3:cl.lookup y=none):gS X scope y cl:=by
 refine⟨fun x h=>?_,fun x c e=>h2.mem _ (mem_of_lookup e),h3⟩
 have h4:=List.all_eq_true.mp h1
 have key:∀ k:NameKind,(k=.cell∨k=.free)->(relabel scope X.env).names.lookup x=some k->x=y∨∃ c,cl.lookup x=some c:=fun k hk e=>by
  have q:=h4 _ (mem_of_lookup e)
  have z:(k == NameKind.cell || k == NameKind.free)=true:=by rcases hk with rfl | rfl <;> rfl
  simp only [z,Bool.not_true,Bool.false_or,Bool.or_eq_true] at q
  rcases q with q | q
  ·exact .inl (eq_of_beq q)
  ·exact .inr (Option.isSome_iff_exists.mp q)
 rcases h with h | h
 ·exact key _ (.inl rfl) h
 ·exact key _ (.inr rfl) h
theorem cW {y x:Str} {a c:Addr} {cl:List (Str×Addr)} (h:((y,a) :: cl).lookup x=some c):(x=y/\c=a)∨(x≠y/\cl.lookup x=some c):=by
 rw [List.lookup_cons] at h
 cases e:x == y with
 | true=>
  rw [e] at h
  injection h with h
  exact .inl ⟨eq_of_beq e,h.symm⟩
 | false=>
  rw [e] at h
  refine .inr ⟨fun z=>?_,h⟩
  rw [z,beq_self_eq_true] at e
  cases e
theorem oN {y x:Str} {a c:Addr} {cl:List (Str×Addr)} (n:cl.lookup y=none) (h:cl.lookup x=some c):((y,a) :: cl).lookup x=some c:=by
 have ne:(x == y)=false:=by
  cases e:x == y with
  | true=>rw [eq_of_beq e,n] at h;cases h
  | false=>rfl
 rw [List.lookup_cons,ne]
 exact h
section
variable {M:Model} {A:Around} {E:Value->Shared->Prop} {s:Shared}
theorem vX {scope:Scope} {globals:Addr} {cl:List (Str×Addr)} {qual:Str} {outer:Env} {y:Str} {Q:Env->Shared->Prop} (hs:∀ n:Nat,cellsFrom n scope.names cl=(y,n) :: cl) (hp:∀ h:Heap,pushCells h scope.names=h.push { cls:=.type "cell", data:=.cell none })
  (hQ:Q { scope,locals:=s.heap.objs.size,globals,cells:=(y,s.heap.objs.size+1) :: cl,qual,func:=none,code:=outer.code,frame:=outer.frame,builtins:=outer.builtins } { s with heap:=(s.heap.push { cls:=.type "dict", data:=.dict #[] }).push { cls:=.type "cell", data:=.cell none } }) :
  wpAny M A (newFunctionEnv scope globals cl [] qual none .none (some outer)) Q E s:=by
 simp only [newFunctionEnv,Option.isSome_some,if_true]
 refine wpAny_bind (wpAny_alloc (wpAny_bind (wpAny_layCells _ (fun name kind cells=>by cases hkc:kind == NameKind.cell <;> simp [hkc]) _ _ _ _ ?_)))
 rw [hs,hp]
 refine wpAny_bind (wpAny_pure (wpAny_pure ?_))
 rw [show ({ s with heap:=s.heap.push { cls:=.type "dict", data:=.dict #[] } }:Shared).heap.objs.size=s.heap.objs.size+1 from Heap.size_push ..]
 exact hQ
end
section
variable {X:Cx} {N':List Str} {scope:Scope} {y:Str} {cl:List (Str×Addr)} {src:List (Option Nat)} {pins:List (Addr×Obj)} {σ:L2.St} {H:Hp} {s:Shared} {fp:List Addr}
theorem Cx.compD_ok {C:Addr} (I:Inv X pins σ H s) (hC:s.heap.objs.size≤C) (hk:scope.kind=.function) (hf:∀ b∈fp,fh X pins H b) (hfs:∀ b∈fp,b < s.heap.objs.size) (hc:gS X scope y cl) :
  (lj X N' scope y cl C fp pins s H).Ok where
 mod:=I.ok.mod
 kind:=hk
 glob:=I.ok.glob
 blt:=I.ok.blt
 above:=hC
 inj:=fun a b c e1 e2=>by
  have old:∀ z,cl.lookup z=some (C+1)->False:=fun z e=>by
   obtain⟨v,o,ho,_⟩:=I.cell z _ (hc.up z _ e)
   have q:=Heap.lt_size ho
   exact Nat.lt_irrefl _ (Nat.lt_of_lt_of_le (Nat.lt_of_le_of_lt (Nat.le_succ C) q) hC)
  rcases cW e1 with ⟨h1,h2⟩ | ⟨_,h2⟩
  ·rcases cW e2 with ⟨h3,_⟩ | ⟨_,h4⟩
   ·rw [h1,h3]
   ·rw [h2] at h4;exact (old b h4).elim
  ·rcases cW e2 with ⟨_,h4⟩ | ⟨_,h4⟩
   ·rw [h4] at h2;exact (old a h2).elim
   ·exact I.ok.inj a b c (hc.up a c h2) (hc.up b c h4)
 has:=fun x h=>by
  rcases hc.has x h with z | ⟨c,z⟩
  ·exact⟨C+1,by show ((y,C+1) :: cl).lookup x=_;rw [z,List.lookup_cons,beq_self_eq_true]⟩
  ·exact⟨c,oN hc.no z⟩
 cab:=fun x c z e=>by
  have zx:x=y:=eq_of_beq z
  rcases cW e with ⟨_,h2⟩ | ⟨h1,_⟩
  ·rw [h2];exact Nat.le_trans hC (Nat.le_succ C)
  ·exact absurd zx h1
 hd:=I.ok.hd
 frames:=I.ok.frames
 stk:=.inl rfl
 exf:=fun b hb=>⟨fun z=>by have:=hfs b hb;rw [show b=C from z] at this;exact absurd (Nat.lt_of_lt_of_le this hC) (Nat.lt_irrefl _),fun x c e=>by
  rcases cW e with ⟨_,h2⟩ | ⟨_,h2⟩
  ·have q:=hfs b hb
   intro z
   rw [show b=C+1 from z.symm.trans h2] at q
   exact Nat.lt_irrefl _ (Nat.lt_of_lt_of_le (Nat.lt_of_le_of_lt (Nat.le_succ C) q) hC)
  ·exact (hf b hb).2.2.2.2.1 x c (hc.up x c h2)⟩
 bs:=I.bs
 bsz:=Nat.le_trans I.ok.bsz I.sz
 noex:=fun b o e hb=>by
  rcases (hf b hb).2.2.2.1 with z | z
  ·exact I.ok.noex b o e z
  ·rw [(I.ok.bs b o e).1] at z;cases z
 exfs:=fun b hb z=>by
  rcases List.mem_cons.mp (I.stkSub b z) with q | q
  ·exact (hf b hb).2.1 q
  ·exact (hf b hb).2.2.1 q
 funs:=I.stack
 frf:=I.stkFree
theorem Inv.compD {C:Addr} {h₁:Heap} {m:Str->Option Value} {tk:Nat} (I:Inv X pins σ H s) (hC:C=s.heap.objs.size) (hns:h₁.Ns C m) (hcl1:h₁.IsCell (C+1) none) (keep:∀ b o,s.heap.get? b=some o->h₁.get? b=some o)
  (hk:scope.kind=.function) (hf:∀ b∈fp,fh X pins H b) (hfs:∀ b∈fp,b < s.heap.objs.size) (hc:gS X scope y cl) (hfree:bQ X scope cl N' src) :
  Inv (lj X N' scope y cl C fp pins s H) [] (bC src σ) H { s with heap:=h₁,toks:=tk } where
 ok:=Cx.compD_ok I (Nat.le_of_eq hC.symm) hk hf hfs hc
 os:=rfl
 bare:=I.bare
 base:=Un.kept keep
 loc:=⟨m,hns,fun i x v e1 e2 _=>by
  obtain⟨j,hj,hσ,kc,kc',hl⟩:=hfree.at e1 e2
  obtain⟨m0,hn0,hl0⟩:=I.loc
  obtain⟨u,r,l⟩:=hl0 j x v hj hσ (Or.inr (Or.inl kc))
  rcases l with ⟨k,_⟩ | ⟨k,c,e,o,ho,hd⟩
  ·rw [kc] at k;cases k
  ·exact⟨u,r,.inr ⟨.inl kc',c,oN hc.no (hl.trans e),o,keep c o ho,hd⟩⟩⟩
 cell:=fun x c e=>by
  rcases cW e with ⟨_,h2⟩ | ⟨_,h2⟩
  ·rw [h2];exact⟨none,hcl1⟩
  ·obtain⟨v,o,ho,hd⟩:=I.cell x c (hc.up x c h2)
   exact⟨v,o,keep _ _ ho,hd⟩
 free:=I.hok.fresh (Nat.le_of_eq hC.symm)
 freeC:=fun x c e=>by
  rcases cW e with ⟨_,h2⟩ | ⟨_,h2⟩
  ·rw [h2];exact I.hok.fresh (by rw [hC];exact Nat.le_succ _)
  ·exact I.freeC x c (hc.up x c h2)
 pin:=fun p hp=>by
  have hp':p∈X.pn++pins:=by
   have z:p∈(X.pn++pins)++[]:=hp
   rw [List.append_nil] at z;exact z
  obtain⟨e,n,ne,nf,d⟩:=I.pin p hp'
  refine⟨keep _ _ e,n,fun z=>?_,fun z=>?_,d⟩
  ·have:=Heap.lt_size e;rw [show p.1=C from z,hC] at this;exact Nat.lt_irrefl _ this
  ·rcases List.mem_cons.mp (I.stkSub _ z) with q | q
   ·exact ne q
   ·exact nf q
 hok:=I.hok.kept keep
 len:=by show (bC src σ).length=N'.length;unfold bC;rw [List.length_map,hfree.len]
end
section
variable {X:Cx} {N':List Str} {scope:Scope} {y:Str} {cl:List (Str×Addr)} {src:List (Option Nat)} {tg iter elt:Expr} {ifs:List Expr} {wi:TI} {g:TG} {tt:TT} {te:TE} {pos:Pos}
theorem qd (hc:X.calm=true) (hi:PI X tg iter wi) (hg:∀ C fp pins s H,PG (lj X N' scope y cl C fp pins s H) tg g) (ht:∀ C fp pins s H,xA (lj X N' scope y cl C fp pins s H) ifs tt)
  (he:∀ C fp pins s H,PE (lj X N' scope y cl C fp pins s H) elt te) (hfree:bQ X scope cl N' src) (hcf:∀ n:Nat,cellsFrom n scope.names cl=(y,n) :: cl) (hcp:∀ h:Heap,pushCells h scope.names=h.push { cls:=.type "cell", data:=.cell none }) (hkind:scope.kind=.function) (hcl:gS X scope y cl)
  {RR:Value->Addr->Result->Shared->Prop} {pins:List (Addr×Obj)} {s:Shared} {σ:L2.St} {H:Hp} {Q:VK} (I:Inv X pins σ H s) (h:f9 wi src g tt te σ H Q)
  (hRR:∀ D C H' s',Q (.ref D) H'->(∃ m,s'.heap.Ns C m)->Inv X pins σ H' s'->qp X pins H' C->RR (.ref D) C (.ok .next) s') :
  wpAny (model X.prog X.w) X.A (eval iter X.env) (fun x s₁=>wpAny (model X.prog X.w) X.A (pyIter x) (fun itv s₂=>wpAny (model X.prog X.w) X.A (newList []) (fun acc s₃=>
   wpAny (model X.prog X.w) X.A (newFunctionEnv scope X.env.globals cl [] X.env.qual none .none (some X.env)) (fun cenv s₄=>
    codeAny (model X.prog X.w) X.A (.compStart (.ListComp elt [⟨tg,iter,ifs,0⟩] scope pos) 0 itv acc { cenv with scope:=relabel scope X.env }) (RR acc cenv.locals) s₄) X.xe s₃) X.xe s₂) X.xe s₁) X.xe s:=by
 refine bc (hi pins s σ H _ I h) fun v s1 h1=>bc h1 fun itv s2 h2=>?_
 obtain⟨it,fp,tn,J,H2,e,I2,T,st2,f2,h2⟩:=h2
 subst e
 refine wpAny_newObj_type ?_ (by show 0≤sizeLine;exact Nat.zero_le _)
 have hD:H2 s2.heap.objs.size=none:=I2.fresh
 have I3:Inv X pins σ (ax H2 s2.heap.objs.size (.lst [])) { s2 with heap:=s2.heap.push { cls:=.type "list", data:=.seq ([]:List Value).toArray } }:=I2.lnew (t':=s2.toks) (its:=[]) .nil (Nat.zero_le _)
 obtain⟨W,⟨m0,w0⟩,turn⟩:=h2 s2.heap.objs.size hD
 generalize hDe:s2.heap.objs.size=D at I3 turn w0 hD ⊢
 have st3:tn 0 (s2.heap.push { cls:=.type "list", data:=.seq ([]:List Value).toArray }):=T.keep _ _ _ st2 fun b _ o e=>Heap.get?_push_of_some _ e
 have f3:∀ b∈fp,fh X pins (ax H2 D (.lst [])) b/\b < (s2.heap.push { cls:=.type "list", data:=.seq ([]:List Value).toArray }).objs.size:=fun b hb=>by
  obtain⟨o,e,_⟩:=T.obj _ _ st2 b hb
  have l:=Heap.lt_size e
  rw [hDe] at l
  refine⟨⟨?_,(f2 b hb).2⟩,by rw [Heap.size_push,hDe];exact Nat.lt_succ_of_lt l⟩
  rw [aj (Nat.ne_of_lt l)];exact (f2 b hb).1
 generalize (s2.heap.push { cls:=.type "list", data:=.seq ([]:List Value).toArray })=h3 at I3 st3 f3 ⊢
 refine vX hcf hcp ?_
 have sz:(h3.push { cls:=.type "dict", data:=.dict #[] }).objs.size=h3.objs.size+1:=Heap.size_push ..
 have hns₄:=(Heap.Ns.new h3 (.type "dict")).keeps fun b o e=>Heap.get?_push_of_some { cls:=.type "cell", data:=.cell none } e
 have hce₄:((h3.push { cls:=.type "dict", data:=.dict #[] }).push { cls:=.type "cell", data:=.cell none }).IsCell (h3.objs.size+1) none:=⟨_,by rw [← sz];exact Heap.get?_push_size _ rfl,rfl⟩
 have keep:∀ b o,h3.get? b=some o->((h3.push { cls:=.type "dict", data:=.dict #[] }).push { cls:=.type "cell", data:=.cell none }).get? b=some o:=fun b o e=>Heap.get?_push_of_some _ (Heap.get?_push_of_some _ e)
 generalize (h3.push { cls:=.type "dict", data:=.dict #[] }).push { cls:=.type "cell", data:=.cell none }=h₄ at hns₄ hce₄ keep ⊢
 have I4:=Inv.compD (C:=h3.objs.size) (fp:=fp) (tk:=s2.toks) I3 rfl hns₄ hce₄ keep hkind (fun b hb=>(f3 b hb).1) (fun b hb=>(f3 b hb).2) hcl hfree
 have st4:tn 0 h₄:=T.keep _ _ _ st3 fun b _ o e=>keep b o e
 have fpn:∀ b∈fp,(ax H2 D (.lst [])) b=none:=fun b hb=>(f3 b hb).1.1
 have hn3:∀ b∈fp,b≠h3.objs.size:=fun b hb=>Nat.ne_of_lt (f3 b hb).2
 have stat:∀ {H':Hp},(∀ b∈fp,H' b=none)->∀ b∈fp,fh (lj X N' scope y cl h3.objs.size fp pins { s2 with heap:=h3 } (ax H2 D (.lst []))) [] H' b:=fun hn b hb=>
  ⟨hn b hb,hn3 b hb,I4.ok.exfs b hb,.inl hb,fun x c e=>(by
   rcases cW e with ⟨_,h2⟩ | ⟨_,h2⟩
   ·intro z
    have q:=(f3 b hb).2
    rw [show b=h3.objs.size+1 from z.symm.trans h2] at q
    exact Nat.lt_irrefl _ (Nat.lt_of_le_of_lt (Nat.le_succ _) q)
   ·exact (f3 b hb).1.2.2.2.2.1 x c (hcl.up x c h2)),fun p hp=>(f3 b hb).1.2.2.2.2.2 p (by
   have z:p∈(X.pn++pins)++[]:=hp
   rw [List.append_nil] at z;exact z)⟩
 have back:∀ {H':Hp} {s':Shared},Inv (lj X N' scope y cl h3.objs.size fp pins { s2 with heap:=h3 } (ax H2 D (.lst []))) [] (bC src σ) H' s'->(∃ m,s'.heap.Ns h3.objs.size m)/\Inv X pins σ H' s'/\qp X pins H' h3.objs.size:=fun {H' s'} I'=>by
  have Ib:Inv X pins σ H' s':=I3.call' I'.os I'.base I'.hok I'.bare fun b hb=>⟨(f3 b hb).1.2.2.2.1,(f3 b hb).1.2.1,(f3 b hb).1.2.2.2.2.1,(f3 b hb).1.2.2.2.2.2⟩
  refine⟨let ⟨m,hm,_⟩:=I'.loc;⟨m,hm⟩,Ib,⟨I'.free,fun z=>?_,I3.nofs (Nat.le_refl _),Heap.get?_none_of_le I3.sz,fun x c e z=>?_,fun p hp z=>?_⟩⟩
  ·have:=I3.lt;rw [← z] at this;exact Nat.lt_irrefl _ this
  ·obtain⟨v,o,ho,_⟩:=I3.cell x c e
   have:=Heap.lt_size ho;rw [z] at this;exact Nat.lt_irrefl _ this
  ·obtain⟨e,_⟩:=I3.pin p hp
   have:=Heap.lt_size e;rw [z] at this;exact Nat.lt_irrefl _ this
 have loop:codeAny (model X.prog X.w) X.A (.compLoop (.ListComp elt [⟨tg,iter,ifs,0⟩] scope pos) 0 (.ref it) (.ref D) (compEnvC scope ((y,h3.objs.size+1) :: cl) h3.objs.size X.env)) (RR (.ref D) h3.objs.size) { s2 with heap:=h₄,toks:=s2.toks }:=by
  refine jT (fun n s'=>∃ i ys H',Inv (lj X N' scope y cl h3.objs.size fp pins { s2 with heap:=h3 } (ax H2 D (.lst []))) [] (bC src σ) H' s'/\tn i s'.heap/\(∀ b∈fp,H' b=none)/\W i n ys H') ?_ m0 ⟨0,[],_,I4,st4,fpn,w0⟩
  rintro n s5 ⟨i,ys,H5,I5,st5,fr5,w5⟩
  rcases turn i n ys H5 w5 with ⟨stop,qn⟩ | ⟨go,step⟩
  ·refine bc (T.done (lj X N' scope y cl h3.objs.size fp pins { s2 with heap:=h3 } (ax H2 D (.lst []))) rfl rfl rfl hc i [] s5 _ H5 _ I5 (stat fr5) st5 stop) fun r s6 ⟨hr,I6⟩=>?_
   subst hr
   obtain⟨b1,b2,b3⟩:=back I6
   exact hRR D _ H5 s6 qn b1 b2 b3
  ·refine bc (T.item (lj X N' scope y cl h3.objs.size fp pins { s2 with heap:=h3 } (ax H2 D (.lst []))) rfl rfl rfl hc i [] s5 _ H5 _ I5 (stat fr5) st5 go) fun r s6 ⟨u,hr,h6⟩=>?_
   subst hr
   refine bc h6 fun _ s7 ⟨x,H7,I7,r7,y7,st7,fr7⟩=>?_
   have I7':=I7.pinned (stat fr7) (T.obj _ _ st7)
   refine bc (hg _ _ _ _ _ _ s7 _ H7 x u _ I7' r7 (step x H7 y7)) fun _ s8 ⟨σ8,H8,I8,ex8,q8⟩=>?_
   refine bc (ht _ _ _ _ _ _ s8 σ8 H8 _ I8 q8) fun ok s9 ⟨H9,I9,q9⟩=>?_
   have again:∀ {ys':List V} {Ha:Hp} {sa:Shared},Inv (lj X N' scope y cl h3.objs.size fp pins { s2 with heap:=h3 } (ax H2 D (.lst []))) ([]++gI fp s7.heap) σ8 Ha sa->(∃ m',m' < n/\W (i+1) m' ys' Ha)→
     ∃ m,m < n/\∃ i ys H',Inv (lj X N' scope y cl h3.objs.size fp pins { s2 with heap:=h3 } (ax H2 D (.lst []))) [] (bC src σ) H' sa/\tn i sa.heap/\(∀ b∈fp,H' b=none)/\W i m ys H':=fun {ys' Ha sa} Ia ⟨m',hm,wa⟩=>by
    refine⟨m',hm,i+1,ys',Ha,(Ia.unpinned).weak ex8.1.symm ex8.2,T.keep _ _ _ st7 fun b hb o e=>(Ia.pin (b,o) (List.mem_append_right _ (List.mem_append_right _ (cP hb e)))).1,fun b hb=>?_,wa⟩
    obtain⟨o,e,_⟩:=T.obj _ _ st7 b hb
    exact (Ia.pin (b,o) (List.mem_append_right _ (List.mem_append_right _ (cP hb e)))).2.1
   cases ok with
   | false=>exact again I9 q9
   | true=>
    refine bc (he _ _ _ _ _ _ s9 σ8 H9 _ I9 q9) fun y s10 ⟨yv,H10,I10,r10,q10,hz,wn⟩=>?_
    refine bc (ck _ s10 σ8 H10 (.ref D) [yv] (.ref D) [y] (fun _ Hz=>∃ m',m' < n/\W (i+1) m' (ys++[yv]) Hz) I10 rfl (.cons r10 .nil) ⟨D,ys,yv,rfl,rfl,q10,hz,wn⟩) fun _ s11 ⟨_,H11,I11,_,q11⟩=>?_
    exact again I11 q11
 exact codeAny_compStart_list loop (T.self _ 0 _ _ _ st4 loop)
theorem pU (hc:X.calm=true) (hi:PI X tg iter wi) (hg:∀ C fp pins s H,PG (lj X N' scope y cl C fp pins s H) tg g) (ht:∀ C fp pins s H,xA (lj X N' scope y cl C fp pins s H) ifs tt)
  (he:∀ C fp pins s H,PE (lj X N' scope y cl C fp pins s H) elt te) (hfree:bQ X scope cl N' src) (hclos:closureFor scope X.env=pure cl) (hcf:∀ n:Nat,cellsFrom n scope.names cl=(y,n) :: cl) (hcp:∀ h:Heap,pushCells h scope.names=h.push { cls:=.type "cell", data:=.cell none }) (hkind:scope.kind=.function)
  (hnames:∀ x∈scope.names,x.2=.local->scope.names.lookup x.1=some .local) (hcl:gS X scope y cl) (hs:∀ x,foldedSetIterable iter X.env x=pure x:=by intro _;rfl) :
  PE X (.ListComp elt [⟨tg,iter,ifs,0⟩] scope pos) (f9 wi src g tt te):=by
 intro pins s σ H Q I h
 rw [eval_ListComp]
 refine wpAny_comprehension_free (use:=none) rfl hs hclos hkind hnames (qd hc hi hg ht he hfree hcf hcp hkind hcl (RR:=fun acc C=>compPost (model X.prog X.w) X.A X.xe none (EP X pins σ Q) acc C) I h fun D C H' s' q hm hI hb=>?_)
 obtain⟨m,hm⟩:=hm
 exact⟨m,hm,fun h' sb=>⟨.ref D,H',hb.turned hI sb,rfl,q⟩⟩
end
section
variable {X:Cx} {N':List Str} {scope:Scope} {y:Str} {cl:List (Str×Addr)} {src:List (Option Nat)} {tg iter elt:Expr} {ifs:List Expr} {wi:TI} {g:TG} {tt:TT} {te:TE} {pos:Pos}
theorem pN (hc:X.calm=true) (hi:QI X tg iter wi) (hg:∀ C fp pins s H,QG (lj X N' scope y cl C fp pins s H) tg g) (ht:∀ C fp pins s H,AB (lj X N' scope y cl C fp pins s H) ifs tt) (he:∀ C fp pins s H,QE (lj X N' scope y cl C fp pins s H) elt te) (hfree:bQ X scope cl N' src) (hclos:closureFor scope X.env=pure cl) (hcf:∀ n:Nat,cellsFrom n scope.names cl=(y,n) :: cl) (hcp:∀ h:Heap,pushCells h scope.names=h.push { cls:=.type "cell", data:=.cell none }) (hkind:scope.kind=.function) (hnames:∀ x∈scope.names,x.2=.local->scope.names.lookup x.1=some .local) (hcl:gS X scope y cl) (hs:∀ x,foldedSetIterable iter X.env x=pure x:=by intro _;rfl):QE X (.ListComp elt [⟨tg,iter,ifs,0⟩] scope pos) (f9 wi src g tt te):=⟨pU hc hi.p (fun z0 z1 z2 z3 z4=>(hg z0 z1 z2 z3 z4).p) (fun z0 z1 z2 z3 z4=>(ht z0 z1 z2 z3 z4).p) (fun z0 z1 z2 z3 z4=>(he z0 z1 z2 z3 z4).p) hfree hclos hcf hcp hkind hnames hcl hs⟩
theorem pM (hclos:closureFor scope X.env=pure cl) (hc:X.calm=true) (hi:QI X tg iter wi) (hg:∀ C fp pins s H,QG (gP X N' scope cl C fp pins s H) tg g) (ht:∀ C fp pins s H,AB (gP X N' scope cl C fp pins s H) ifs tt) (he:∀ C fp pins s H,QE (gP X N' scope cl C fp pins s H) elt te) (hfree:bQ X scope cl N' src) (hcell:∀ x∈scope.names,x.2≠.cell) (hkind:scope.kind=.function) (hnames:∀ x∈scope.names,x.2=.local->scope.names.lookup x.1=some .local) (hcl:dh X scope cl) (hs:∀ x,foldedSetIterable iter X.env x=pure x:=by intro _;rfl):QE X (.ListComp elt [⟨tg,iter,ifs,0⟩] scope pos) (f9 wi src g tt te):=aU hc hi hg ht he hfree hclos hcell hkind hnames hcl hs
theorem sk {K:PySem.W.Frag} {l tg:Expr} {tl:TE} (hK:X.K=K) (hl:QE X l tl):QI X tg l (ua K tl):=by subst hK;exact aX hl
end
structure fE (K:PySem.W.Frag) (n:Str) (st:Stmt) (f:Addr) (d:FuncData):Prop where
 p:PySem.W.nsIn K mainGlobals n=some (some (.ref f))
 F:dy K n n st f d
section
variable {K:PySem.W.Frag} {n:Str} {st:Stmt} {f:Addr} {d:FuncData}
theorem isF {oc:Value} {od an:Option Addr} {sl:Array (Option Value)} {kV dc pm cd ct:Value} (p:PySem.W.nsIn K mainGlobals n=some (some (.ref f)))
  (l:K.lookup f=some ⟨oc,od,.func (PySem.W.fnOf n n (cK st) (cy st) (au st) .none kV dc pm an cd ct),sl⟩) (c:PySem.W.codeIn K cd n=true) (k:PySem.W.keepIn K (.ref f)=true) :
  fE K n st f (PySem.W.fnOf n n (cK st) (cy st) (au st) .none kV dc pm an cd ct):=⟨p,uj l c k⟩
abbrev BA (n:Str) (st:Stmt) (us:List Value) (ps:List Str):Prop:=∀ (kV dc pm:Value) (an:Option Addr) (cd ct:Value),bindArgs (PySem.W.fnOf n n (cK st) (cy st) (au st) .none kV dc pm an cd ct) ⟨us,[]⟩=pure (ps.zip us)
theorem fE.b1 {x:Str} (I:fE K n st f d) (h:∀ u,BA n st [u] [x]:=by exact fun _ _ _ _ _ _ _=>rfl):aM K d [x] []:=I.F.binds fun a b c e g i us hl=>match us,hl with | [u],_=>h u a b c e g i
theorem fE.b2 {x y:Str} (I:fE K n st f d) (h:∀ u v,BA n st [u,v] [x,y]:=by exact fun _ _ _ _ _ _ _ _=>rfl):aM K d [x,y] []:=I.F.binds fun a b c e g i us hl=>match us,hl with | [u,v],_=>h u v a b c e g i
theorem fE.b3 {x y z:Str} (I:fE K n st f d) (h:∀ u v w,BA n st [u,v,w] [x,y,z]:=by exact fun _ _ _ _ _ _ _ _ _=>rfl):aM K d [x,y,z] []:=I.F.binds fun a b c e g i us hl=>match us,hl with | [u,v,w],_=>h u v w a b c e g i
end
theorem ac {X:Cx} {st:Stmt} {rest:List Stmt} {t u:TS} (h1:QS X st t) (h2:df X rest u):df X (st :: rest) (let Uq:=u;xM t Uq):=si h1 h2
def Ch (K:PySem.W.Frag) (a b:Addr):It:=
 ⟨fun i H=>∃ xs ys x y,aF K H a xs/\bS K H b ys/\xs[i]?=some x/\ys[i]?=some y,
  fun i H v H'=>∃ p x y,H p=none/\v=.ref p/\H'=ax H p (.tup [x,y])/\(∀ xs,aF K H a xs->xs[i]?=some x)/\∀ ys,bS K H b ys->ys[i]?=some y,
  fun i H=>∃ xs ys,aF K H a xs/\bS K H b ys/\(xs.length≤i∨ys.length≤i)⟩
def Er (z TI TO i1 i2 a b:Addr) (i:Nat) (h:Heap):Prop:=IsZip h z TI TO .none/\IsPair h TI (.ref i1) (.ref i2)/\(∃ u v,IsPair h TO u v)/\h.IsListIter i1 a i/\h.IsTupleIter i2 b i
abbrev AK (h:Heap) (a:Addr):Heap:=h.push { cls:=.type "list_iterator", data:=.fields #[.ref a,.int 0 0] }
abbrev AI (h:Heap) (a b:Addr):Heap:=(AK h a).push { cls:=.type "tuple_iterator", data:=.fields #[.ref b,.int 0 0] }
abbrev AG (h:Heap) (a b:Addr):Heap:=(AI h a b).push { cls:=.type "tuple", data:=.seq #[.ref h.objs.size,.ref (AK h a).objs.size] }
abbrev CJ (h:Heap) (a b:Addr):Heap:=(AG h a b).push { cls:=.type "tuple", data:=.seq #[.none,.none] }
abbrev EI (h:Heap) (a b:Addr):Heap:=(CJ h a b).push { cls:=.type "zip", data:=.fields #[.none,.bool false,.bool false,.ref (AI h a b).objs.size,.ref (AG h a b).objs.size] }
def Dj (K:PySem.W.Frag) (ta:TA):TI:=fun σ H R=>ta σ H fun vs H1=>∃ a b,vs=[.ref a,.ref b]/\(∃ xs,aF K H1 a xs)/\(∃ ys,bS K H1 b ys)/\R (Ch K a b) H1
def Ci (K:PySem.W.Frag) (a b:Addr):It:=
 ⟨fun i H=>∃ xs ys x y,aF K H a xs/\aF K H b ys/\xs[i]?=some x/\ys[i]?=some y,
  fun i H v H'=>∃ p x y,H p=none/\v=.ref p/\H'=ax H p (.tup [x,y])/\(∀ xs,aF K H a xs->xs[i]?=some x)/\∀ ys,aF K H b ys->ys[i]?=some y,
  fun i H=>∃ xs ys,aF K H a xs/\aF K H b ys/\(xs.length≤i∨ys.length≤i)⟩
def Es (z TI TO i1 i2 a b:Addr) (i:Nat) (h:Heap):Prop:=IsZip h z TI TO .none/\IsPair h TI (.ref i1) (.ref i2)/\(∃ u v,IsPair h TO u v)/\h.IsListIter i1 a i/\h.IsListIter i2 b i
abbrev AL (h:Heap) (a:Addr):Heap:=h.push { cls:=.type "list_iterator", data:=.fields #[.ref a,.int 0 0] }
abbrev AJ (h:Heap) (a b:Addr):Heap:=(AL h a).push { cls:=.type "list_iterator", data:=.fields #[.ref b,.int 0 0] }
abbrev AH (h:Heap) (a b:Addr):Heap:=(AJ h a b).push { cls:=.type "tuple", data:=.seq #[.ref h.objs.size,.ref (AL h a).objs.size] }
abbrev CK (h:Heap) (a b:Addr):Heap:=(AH h a b).push { cls:=.type "tuple", data:=.seq #[.none,.none] }
abbrev EJ (h:Heap) (a b:Addr):Heap:=(CK h a b).push { cls:=.type "zip", data:=.fields #[.none,.bool false,.bool false,.ref (AJ h a b).objs.size,.ref (AH h a b).objs.size] }
def Dk (K:PySem.W.Frag) (ta:TA):TI:=fun σ H R=>ta σ H fun vs H1=>∃ a b,vs=[.ref a,.ref b]/\(∃ xs,aF K H1 a xs)/\(∃ ys,aF K H1 b ys)/\R (Ci K a b) H1
section
variable {prog:Program} {w:World} {A:Around} {E:Value->Shared->Prop}
end
section
variable {prog:Program} {w:World} {A:Around} {E:Value->Shared->Prop} {s:Shared}
end
structure Cb (K:PySem.W.Frag) (H:Hp) (ys:List V) (kvs:List (List bR×V)):Prop where
 len:ys.length=kvs.length
 row:∀ (i:Nat) (kv:List bR×V),kvs[i]?=some kv->∃ r b,ys[i]?=some (.ref r)/\bS K H r [.ref b,kv.2]/\H b=some (.tup (kv.1.map kV))
 nd:(kvs.map (·.1)).Nodup
def C8 (K:PySem.W.Frag):List V->Hp->VK->Prop:=fun vs H Q=>∃ (p:Addr) (ob:Obj) (ys:List V) (kvs:List (List bR×V)),vs=[.ref p]/\H p=some (.frz ob (.tup ys))/\ob.dict=none/\Cb K H ys kvs/\∀ l,H l=none->Q (.ref l) (ax H l (.dT kvs))
def DY (K:PySem.W.Frag):List V->Hp->VK->Prop:=fun vs H Q=>∃ (p:Addr) (ys:List V),vs=[.ref p]/\aF K H p ys/\∀ (l:Addr) (ob:Obj),H l=none->ob.dict=none->Q (.ref l) (ax H l (.frz ob (.tup ys)))
section
variable {X:Cx} {K:PySem.W.Frag}
theorem gu {i o:Expr} {pos:Pos} {td ty:TE} (hu:X.A.units+1 < cLine) (ho:QE X o td) (hi:QE X i ty) (hs:Aq i):QE X (.Subscript o i pos) (wU td ty):=⟨vO hu ho.p hi.p hs⟩
end
section
set_option autoImplicit true
set_option relaxedAutoImplicit true
theorem bY  (he:QE X e ta) (hb:attributeBase e f X.env (eval e X.env)=eval e X.env):QE X (.Attribute e f pos) (xN X.K ta f):=⟨yX he.p hb⟩
theorem gH  (ha:QE X o ta) (hv:QE X value tv) (hs:swapsWith value (some (.Attribute o f pos')) pos.line X.env=pure false):QS X (.Assign [.Attribute o f pos'] value pos) (Bb X.K ta tv f):=⟨yM ha.p hv.p hs⟩
theorem cR  {pl:Sem Bool} (he:QE X o ta) (c:oi X.K C) (hm:fY X.K C m f) (F:bh X.prog X.w X.K X.mg X.base CX k f fd ps sp) (hr:cr k X.A) (hb:aM X.K fd ps ds) (hd:aR dvs ds) (hx:dn CX X E) (ha:QA X (e :: es) t) (hst:starEach (e :: es) X.env=(false,eval e X.env) :: starEach es X.env:=by rfl) (hpl:(backTo pos (starEach es X.env)).any (·.1)=false:=by rfl) (ht:eval (.Call (.Attribute o m apos) (e :: es) [] pos) X.env=(do
   let ov ← eval o X.env
   standAt apos.atName
   let (f,first) ← holding [ov] (getMethod ov m pl)
   callWith pos f first (backTo pos (starEach (e :: es) X.env)) (backToKw pos (keywordEach [] X.env))):=by rfl):QE X (.Call (.Attribute o m apos) (e :: es) [] pos) (oy C m sp dvs E ta t):=⟨vL he.p c hm F hr hb hd hx ha.p hst hpl ht⟩
theorem su  {pl:Sem Bool} (he:QE X o ta) (c:oi X.K C) (hm:fY X.K C m f) (F:bh X.prog X.w X.K X.mg X.base CX k f fd ps sp) (hr:cr k X.A) (hb:aM X.K fd ps ds) (hd:aR dvs ds) (hx:dn CX X E) (ht:eval (.Call (.Attribute o m apos) [] [] pos) X.env=(do
   let ov ← eval o X.env
   standAt apos.atName
   let (f,first) ← holding [ov] (getMethod ov m pl)
   callWith pos f first (backTo pos (starEach [] X.env)) (backToKw pos (keywordEach [] X.env))):=by rfl):QE X (.Call (.Attribute o m apos) [] [] pos) (oy C m sp dvs E ta uU):=⟨sZ he.p c hm F hr hb hd hx ht⟩
end
structure jx (K:PySem.W.Frag) (C:Addr) (n q:Str) (st:Stmt) (f:Addr) (d:FuncData):Prop where
 p:PySem.W.findIn K (.ref C) n=some (some (.ref f))
 fn:PySem.W.isFn K (.ref f)=true
 F:dy K n q st f d
section
variable {K:PySem.W.Frag} {C:Addr} {n q:Str} {st:Stmt} {f:Addr} {d:FuncData}
theorem isM {oc:Value} {od an:Option Addr} {sl:Array (Option Value)} {kV dc pm cd ct:Value} (p:PySem.W.findIn K (.ref C) n=some (some (.ref f))) (fn:PySem.W.isFn K (.ref f)=true)
  (l:K.lookup f=some ⟨oc,od,.func (PySem.W.fnOf n q (cK st) (cy st) (au st) .none kV dc pm an cd ct),sl⟩) (c:PySem.W.codeIn K cd q=true) (k:PySem.W.keepIn K (.ref f)=true) :
  jx K C n q st f (PySem.W.fnOf n q (cK st) (cy st) (au st) .none kV dc pm an cd ct):=⟨p,fn,uj l c k⟩
theorem jx.meth (I:jx K C n q st f d):fY K C n f:=⟨I.p,I.fn,I.F.kp⟩
abbrev BM (n q:Str) (st:Stmt) (us:List Value) (ps:List Str):Prop:=∀ (kV dc pm:Value) (an:Option Addr) (cd ct:Value),bindArgs (PySem.W.fnOf n q (cK st) (cy st) (au st) .none kV dc pm an cd ct) ⟨us,[]⟩=pure (ps.zip us)
theorem jx.b1 {x:Str} (I:jx K C n q st f d) (h:∀ u,BM n q st [u] [x]:=by exact fun _ _ _ _ _ _ _=>rfl):aM K d [x] []:=I.F.binds fun a b c e g i us hl=>match us,hl with | [u],_=>h u a b c e g i
theorem jx.b2 {x y:Str} (I:jx K C n q st f d) (h:∀ u v,BM n q st [u,v] [x,y]:=by exact fun _ _ _ _ _ _ _ _=>rfl):aM K d [x,y] []:=I.F.binds fun a b c e g i us hl=>match us,hl with | [u,v],_=>h u v a b c e g i
theorem jx.b3 {x y z:Str} (I:jx K C n q st f d) (h:∀ u v w,BM n q st [u,v,w] [x,y,z]:=by exact fun _ _ _ _ _ _ _ _ _=>rfl):aM K d [x,y,z] []:=I.F.binds fun a b c e g i us hl=>match us,hl with | [u,v,w],_=>h u v w a b c e g i
theorem jx.b4 {x y z t:Str} (I:jx K C n q st f d) (h:∀ u v w r,BM n q st [u,v,w,r] [x,y,z,t]:=by exact fun _ _ _ _ _ _ _ _ _ _=>rfl):aM K d [x,y,z,t] []:=I.F.binds fun a b c e g i us hl=>match us,hl with | [u,v,w,r],_=>h u v w r a b c e g i
end
def EF:XK:=fun _ _ _=>False
theorem uz {α β:Type} {K:PySem.W.Frag} {H:Hp} {D a:Addr} {xs:List V} {ds:List α} {P:Hp->V->β->Prop} {f:α->β} {p:α->Bool} {src:List (Option Nat)} {σ:L2.St} {g:TG} {tt:TT} {te:TE} {Q:Hp->Prop}
  (mono:∀ H H' v d,be K H H'->P H v d->P H' v d) (hD:H D=none) (hS:aF K H a xs) (hl:xs.length=ds.length) (hn:ds.length≤1000)
  (turn:∀ (i:Nat) (x:V) (d:α) (H':Hp),xs[i]?=some x->ds[i]?=some d->az H H'->∀ (R:VK) (E:Hp->Prop),(p d=true->∀ v H'',az H' H''->P H'' v (f d)->R v H'')->(p d=false->∀ H'',az H' H''->E H'')→
   g x (bC src σ) H' fun σ2 H2=>dM (bC src σ) σ2/\tt σ2 H2 fun ok H3=>if ok=true then te σ2 H3 R else E H3)
  (fin:∀ H' ys,az H H'->H' D=some (.lst ys)->cQ (P H') ys ((ds.filter p).map f)->Q H') :
  ∃ W:Nat->Nat->List V->Hp->Prop,(∃ m,W 0 m [] (ax H D (.lst [])))/\∀ i m ys H,W i m ys H->((oh K a).stop i H/\Q H)∨((oh K a).go i H/\∀ x H',(oh K a).yld i H x H'→
   g x (bC src σ) H' fun σ2 H2=>dM (bC src σ) σ2/\tt σ2 H2 fun ok H3=>
    if ok=true then te σ2 H3 fun y H4=>H4 D=some (.lst ys)/\ys.length < sizeLine/\∃ m',m' < m/\W (i+1) m' (ys++[y]) (ax H4 D (.lst (ys++[y]))) else ∃ m',m' < m/\W (i+1) m' ys H3):=by
 refine⟨fun i m ys H'=>i≤ds.length/\m=ds.length - i/\H' D=some (.lst ys)/\az H H'/\cQ (P H') ys (((ds.take i).filter p).map f),⟨_,Nat.zero_le _,rfl,ae,ai hD _,.nil⟩,?_⟩
 rintro i m ys H1 ⟨hi,rfl,d1,s1,al1⟩
 have hS1:aF K H1 a xs:=s1.seq hS
 by_cases hix:i < ds.length
 ·have hx0:xs[i]?=some (xs[i]'(by omega)):=List.getElem?_eq_getElem _
  refine .inr ⟨⟨xs,_,hS1,hx0⟩,?_⟩
  rintro x H2 ⟨rfl,hy⟩
  have hx:=hy xs hS1
  obtain⟨d,hd⟩:∃ d,ds[i]?=some d:=⟨_,List.getElem?_eq_getElem hix⟩
  have tk:ds.take (i+1)=ds.take i++[d]:=by rw [List.take_add_one,hd];rfl
  refine turn i x d _ hx hd s1 _ _ (fun o3 v H3 s3 p3=>?_) fun n3 H3 s3=>?_
  ·have d3:H3 D=some (.lst ys):=s3 _ _ d1
   have tm:be K H2 (ax H3 D (.lst (ys++[v]))):=(be.same s3).trans (be.up d3 _)
   have ly:ys.length≤1000:=by
    rw [al1.len,List.length_map]
    exact Nat.le_trans (List.length_filter_le _ _) (by rw [List.length_take];omega)
   refine⟨d3,aZ ly,ds.length - (i+1),by omega,hix,rfl,ae,fun b o q=>?_,?_⟩
   ·rw [aj (ay q hD)]
    exact s3 _ _ (s1 _ _ q)
   ·rw [tk,List.filter_append,List.filter_cons_of_pos o3,List.filter_nil,List.map_append]
    exact (al1.mono fun v d p=>mono _ _ _ _ tm p).snoc (mono _ _ _ _ (be.up d3 _) p3)
  ·refine⟨ds.length - (i+1),by omega,hix,rfl,s3 _ _ d1,s1.trans s3,?_⟩
   rw [tk,List.filter_append,List.filter_cons_of_neg (by rw [n3];decide),List.filter_nil,List.append_nil]
   exact al1.mono fun v d p=>mono _ _ _ _ (be.same s3) p
 ·have e:i=ds.length:=by omega
  subst e
  rw [List.take_length] at al1
  exact .inl ⟨⟨xs,hS1,by omega⟩,fin H1 ys s1 d1 al1⟩
theorem jR (us:List Value):∀ (n:Nat) (acc:Array Value),(List.foldl (fun x1 x2=>x1++x2) acc (List.replicate n us.toArray)).toList=acc.toList++(List.replicate n us).flatten
 | 0,acc=>by simp
 | n+1,acc=>by
  rw [List.replicate_succ,List.foldl_cons,jR us n,List.replicate_succ]
  simp
theorem jz {vs:List V} {us:List Value} (r:aR vs us):∀ n:Nat,aR (List.replicate n vs).flatten (List.replicate n us).flatten
 | 0=>.nil
 | n+1=>by
  rw [List.replicate_succ,List.replicate_succ,List.flatten_cons,List.flatten_cons]
  exact r.append (jz r n)
theorem mK (l:Addr) (n:Nat) (dd:Option Addr) (sl:Array (Option Value)) (x:Int) (u:Tok) (hc0:¬(decide (x < -(2 ^ 63)) || decide (x ≥ 2 ^ 63))=true) :
  Meets (Builtin.«tuple.__mul__» ⟨[.ref l,.int x u],[]⟩) (fun _ R s=>s.heap.get? l=some { cls:=.type "tuple", dict:=dd,data:=.seq #[] n,slots:=sl }/\R (.ok (.ret (Value.ref l))) s):=
 .of_wp fun prog w A R s h=>by
  obtain⟨hp,g,d,tk,os⟩:=s;obtain⟨hl,h⟩:=h
  have f1:=AutoSeq1.idx_int;have f2:=AutoSeq1.sub_tuple_tuple;have f3:=AutoSeq1.sub_list_list;have f4:=AutoSeq1.sub_tuple_list;have f5:=AutoSeq1.sub_list_tuple
  wp_walk using wpAny_loadPart' hl
  refine wpAny_ite_false (decide_eq_false hc0) ?_
  wp_walk using wpAny_loadPart' hl
  exact⟨_,rfl,h⟩
theorem tD {X:Cx}:eI X (binaryOp .Mult) (fun x y H Q=>∃ (p:Addr) (xs:List V) (n:Nat),x=.ref p/\y=.int n/\bS X.K H p xs/\2≤n/\n≤1000/\xs.length * n≤1000/\(xs=[]->Q (.ref p) H)/\(xs≠[]->∀ l,H l=none->Q (.ref l) (ax H l (.tup (List.replicate n xs).flatten)))):=by
 intro pins s σ H x y xv yv Q I rx ry h
 obtain⟨p,xs,n,rfl,rfl,hp,h2,n1,hn,q0,q⟩:=h
 cases (show xv=Value.ref p from rx)
 obtain⟨t,rfl⟩:=(show ∃ t,yv=Value.int n t from ry)
 obtain⟨its,rv,p1,_⟩:=I.tuple hp
 obtain⟨⟨cls,dd,data,sl⟩,ho,hc,k,hd⟩:=id p1
 simp only at hc hd
 subst hc hd
 have l1:=rv.length
 by_cases e0:xs=[]
 ·subst e0
  cases rv
  refine wpAny_binaryOp_repeat_ref (T := "tuple") (U := "int") (by decide) ⟨_,ho,rfl⟩ (fun s'=>typeIs_int s' _ t) dW F.fills_int_mul F.slot_int_rmul gi F.slot_int_index.lookup
   (call_meets F.slot_int_rmul (typeIs_int s _ t) F.entry_int_rmul (F.args_int_rmul_2 _ _) (eX _ t p _ k dd sl)
    ⟨ho,rfl,⟨_,ho,rfl⟩,call_meets F.slot_tuple_mul ⟨_,ho,rfl⟩ F.entry_tuple_mul (F.args_tuple_mul_2 _ _)
     (mK p k dd sl n t (by simp;omega)) ⟨ho,?_⟩⟩)
  exact⟨.ref p,H,I,rfl,q0 rfl⟩
 have lp:0 < xs.length:=List.length_pos_iff.mpr e0
 have ie:its≠[]:=fun z=>by rw [z,List.length_nil] at l1;omega
 have el:(List.foldl (fun x1 x2=>x1++x2) #[] (List.replicate (n:Int).toNat its.toArray))=((List.replicate n its).flatten).toArray:=by
  apply Array.ext'
  rw [Int.toNat_natCast,jR its n #[]]
  simp
 have lf:((List.replicate n its).flatten).length≤1000:=by
  rw [List.length_flatten,List.map_replicate,List.sum_replicate_nat,← l1,Nat.mul_comm]
  exact hn
 have li:its.length≤1000:=by rw [← l1];exact Nat.le_trans (Nat.le_mul_of_pos_right _ (by omega)) hn
 have lin:its.length * n≤1000:=by rw [← l1];exact hn
 have lin':(its.length:Int) * n≤1000:=by rw [← Int.natCast_mul];exact Int.ofNat_le.mpr lin
 refine wpAny_binaryOp_repeat_ref (T := "tuple") (U := "int") (by decide) ⟨_,ho,rfl⟩ (fun s'=>typeIs_int s' _ t) dW F.fills_int_mul F.slot_int_rmul gi F.slot_int_index.lookup
  (call_meets F.slot_int_rmul (typeIs_int s _ t) F.entry_int_rmul (F.args_int_rmul_2 _ _) (eX _ t p _ k dd sl)
   ⟨ho,rfl,⟨_,ho,rfl⟩,call_meets F.slot_tuple_mul ⟨_,ho,rfl⟩ F.entry_tuple_mul (F.args_tuple_mul_2 _ _)
    (mJ p _ k dd sl n t (by simp;omega) (by simp [ie];omega) (by simp [ie];omega) (by simp;omega) (by simp [Builtin.Tuple.tupleTooMany,sizeLine];omega) (by rw [el,sizeLine_eq,List.size_toArray];omega))
    ⟨ho,?_⟩⟩)
 rw [el]
 have ln:((List.replicate n xs).flatten).length≤1000:=by
  rw [List.length_flatten,List.map_replicate,List.sum_replicate_nat,Nat.mul_comm]
  exact hn
 have I2:Inv X pins σ (ax H s.heap.objs.size (.tup (List.replicate n xs).flatten)) { s with heap:=s.heap.push { cls:=.type "tuple", data:=.seq ((List.replicate n its).flatten).toArray } }:=
  I.laid (t':=s.toks) (fun b o e=>Heap.get?_push_of_some _ e) (Nat.le_refl _) (show bf X.prog X.w _ _ _ (.tup (List.replicate n xs).flatten) from ⟨by rw [sizeLine_eq];omega,(List.replicate n its).flatten,jz rv n,IsTup.new _ _⟩)
 exact⟨.ref s.heap.objs.size,_,I2,rfl,q e0 _ (I.hok.fresh (Nat.le_refl _))⟩
def Dv (d:Addr) (ob:Obj) (kvs:List (bR×V)):It:=
 ⟨fun i H=>H d=some (.frz ob (.dK kvs))/\i < kvs.length,
  fun i H x H'=>H'=H/\∃ k v,x=kV k/\kvs[i]?=some (k,v),
  fun i H=>H d=some (.frz ob (.dK kvs))/\kvs.length≤i⟩
theorem pA {P:Program} {w:World} {K:PySem.W.Frag} {tg:Expr} {it d:Addr} {ob:Obj} {kvs:List (bR×V)} {es:Array DictEntry} {ep:Nat} (hob:ob.data=.dict es ep) :
  nW P w K tg (Dv d ob kvs) [it] it (fun i h=>h.IsKeyIter it d i kvs.length ep) where
 mem:=by simp
 obj:=fun i h st c hc=>by
  have e:c=it:=by simpa using hc
  subst e
  obtain⟨o,e,cc,dd⟩:=st
  exact⟨o,e,fun v z=>by rw [dd] at z;cases z⟩
 keep:=fun i h h' st k=>st.at fun o e=>k it (by simp) o e
 item:=by
  intro X hP hw hK hc i pins s σ H E I hf st hg
  subst hP hw hK
  obtain⟨hd,hi⟩:=hg
  obtain⟨q0,z,hds,vs,rel,o,es',ep',d1,d2,d3,d4⟩:=(show bf X.prog X.w H s.heap d (.frz ob (.dK kvs)) from I.hok d _ hd)
  have eo:o=ob:=Option.some.inj (d1.symm.trans q0)
  subst eo
  rw [hob] at d3
  cases d3
  have dat:s.heap.DictAt (ba X.prog X.w) d vs ep:=⟨o,es,d1,d2,hob,d4⟩
  obtain⟨k,v,hkv'⟩:∃ k v,kvs[i]?=some (k,v):=⟨(kvs[i]'hi).1,(kvs[i]'hi).2,List.getElem?_eq_getElem hi⟩
  obtain⟨u,hu,ru⟩:=KV.get rel hkv'
  rw [rel.length] at st
  obtain⟨f0,f1,f2,f3,f4,f5⟩:=hf it (by simp)
  refine wpAny_pyNext_dict_item st dat hu fun key h1 hkey st' sb=>?_
  have I1:Inv X pins σ H { s with heap:=h1 }:=I.turned (t':=s.toks) (fun b o hb e=>sb.extBut b o hb e) f0 f1 f3 f4 f5
  obtain⟨o2,e2,c2,dd2⟩:=id st'
  exact⟨key,rfl,oR (s:={ s with heap:=h1 }) e2 c2 dd2 (by decide) ⟨kV k,H,I1,xn hkey,⟨rfl,k,v,rfl,hkv'⟩,by rw [rel.length];exact st',fun b hb=>(hf b hb).1⟩⟩
 done:=by
  intro X hP hw hK hc i pins s σ H E I hf st hg
  subst hP hw hK
  obtain⟨hd,hi⟩:=hg
  obtain⟨q0,z,hds,vs,rel,o,es',ep',d1,d2,d3,d4⟩:=(show bf X.prog X.w H s.heap d (.frz ob (.dK kvs)) from I.hok d _ hd)
  have eo:o=ob:=Option.some.inj (d1.symm.trans q0)
  subst eo
  rw [hob] at d3
  cases d3
  have dat:s.heap.DictAt (ba X.prog X.w) d vs ep:=⟨o,es,d1,d2,hob,d4⟩
  rw [rel.length] at st hi
  obtain⟨f0,f1,f2,f3,f4,f5⟩:=hf it (by simp)
  exact wpAny_pyNext_dict_end (I.ok.hd hc) st dat (List.getElem?_eq_none hi) fun h1 ex=>⟨rfl,I.turned (t':=s.toks) (fun b o hb e=>ex b o hb e) f0 f1 f3 f4 f5⟩
 self:=fun _ _ _ _ _ st h=>wpAny_pyIter_keyiter st h
def xq (td:TE):TI:=fun σ H R=>td σ H fun x H1=>∃ d kvs,x=.ref d/\H1 d=some (.dK kvs)/\∀ ob,R (Dv d ob kvs) (ax H1 d (.frz ob (.dK kvs)))
theorem vE {X:Cx} {tg o:Expr} {td:TE} (ho:PE X o td):PI X tg o (xq td):=by
 intro pins s σ H R I h
 refine bc (ho pins s σ H _ I h) fun u s1 ⟨x,H1,I1,rx,d,kvs,ex,e,q⟩=>?_
 subst ex
 obtain rfl:u=Value.ref d:=rx
 obtain⟨z,hds,vs,rel,dd⟩:=uv I1.hok e
 obtain⟨o',es,ep,d1,d2,d3,d4⟩:=id dd
 have dat:s1.heap.DictAt (ba X.prog X.w) d vs ep:=⟨o',es,d1,d2,d3,d4⟩
 refine wpAny_pyIter_dict hds dat ?_
 have k2:∀ b o,s1.heap.get? b=some o->(s1.heap.push { cls:=.type "dict_keyiterator", data:=.fields #[.ref d,.int 0 0,.int vs.length 0,.int ep 0] }).get? b=some o:=fun b o q=>Heap.get?_push_of_some _ q
 have I2:=I1.kept (t':=s1.toks) k2
 have hit:=Heap.get?_push_size s1.heap (o:={ cls:=.type "dict_keyiterator", data:=.fields #[.ref d,.int 0 0,.int vs.length 0,.int ep 0] }) rfl
 have dl:d < s1.heap.objs.size:=Heap.lt_size d1
 generalize s1.heap.push { cls:=.type "dict_keyiterator", data:=.fields #[.ref d,.int 0 0,.int vs.length 0,.int ep 0] }=hE at I2 hit k2 ⊢
 have I3:=iz (h':=hE) (t':=s1.toks) (ob:=.frz o' (.dK kvs)) I2 (by rw [e];exact True.intro) ⟨rfl,fun _ _=>rfl⟩ ⟨_,k2 _ _ d1⟩ ⟨k2 _ _ d1,z,hds,vs,rel,o',es,ep,k2 _ _ d1,d2,d3,d4⟩
 have nd:s1.heap.objs.size≠d:=Nat.ne_of_gt dl
 refine⟨_,[s1.heap.objs.size],_,_,_,rfl,I3,pA d3,⟨_,hit,rfl,by rw [rel.length];rfl⟩,fun c hc=>?_,q o'⟩
 have hc':c=s1.heap.objs.size:=by simpa using hc
 subst hc'
 exact I1.fpOk (Nat.le_refl _) (by rw [aj nd];exact I1.hok.fresh (Nat.le_refl _))
theorem ve {X:Cx} {tg o:Expr} {td:TE} (ho:QE X o td):QI X tg o (xq td):=⟨vE ho.p⟩
theorem fo {X:Cx} {K:PySem.W.Frag} {e:Expr} {f:Str} {pos:Pos} {ta:TE} (hK:X.K=K) (he:QE X e ta) (hb:attributeBase e f X.env (eval e X.env)=eval e X.env):QE X (.Attribute e f pos) (xN K ta f):=by subst hK;exact bY he hb
theorem jI {X:Cx} {i o:Expr} {pos:Pos} {td ty:TE} (hu:X.A.units+1 < cLine) (hi:QE X i ty) (ho:QE X o td) (hm:behindInMarks .NotIn o=false):QT X (.Compare i [.NotIn] [o] pos) (jD (oz ty td)):=⟨sE (pW hu hi.p ho.p) hm⟩
theorem yz {X:Cx} {i o:Expr} {pos:Pos} {td ty:TE} (hu:X.A.units+1 < cLine) (hi:QE X i ty) (ho:QE X o td) (hm:behindInMarks .In o=false):QT X (.Compare i [.In] [o] pos) (jD (AZ ty td)):=⟨sE (yY hu hi.p ho.p) hm⟩
theorem qz {H:Hp} {d:Addr} {ob:Obj} {kvs:List (bR×V)} (h:H d=some (.frz ob (.dK kvs))):B8 (Dv d ob kvs) H kvs.length (fun i x _=>∃ k v,x=kV k/\kvs[i]?=some (k,v)) where
 go:=fun i H' hi s=>⟨s _ _ h,hi⟩
 stop:=fun H' s=>⟨s _ _ h,Nat.le_refl _⟩
 yld:=fun i H' x H'' hi s y=>by obtain⟨rfl,q⟩:=y;exact⟨az.refl _,q⟩
theorem qj {X:Cx}:cB X (.builtin "len") (fun xs H Q=>∃ (a:Addr) (kvs:List (bR×V)),xs=[.ref a]/\Rd H a (.dK kvs)/\Q (.int kvs.length) H):=by
 intro pins s σ H vs us Q I r h
 obtain⟨a,kvs,rfl,e,q⟩:=h
 cases r with
 | cons r1 r2=>
  cases r2
  cases r1
  exact B4 I e fun t s' I'=>⟨.int kvs.length,H,I',⟨t,rfl⟩,q⟩
section
variable {X:Cx} {pos:Pos}
def Bj (K:PySem.W.Frag):V->V->Hp->VK->Prop:=fun x y H Q=>∃ (p:Addr) (xs:List V) (i:Nat) (v:V),x=.ref p/\y=.int (i:Nat)/\aF K H p xs/\xs[i]?=some v/\Q v H
theorem ft:Ao X (Bj X.K):=by
 intro pins s σ H o i ov iv Q I ro ri h
 obtain⟨p,xs,n,v,rfl,rfl,hq,he,q⟩:=h
 cases ro
 obtain⟨t,rfl⟩:=ri
 obtain⟨its,r,pl,hz⟩:=I.list hq
 obtain⟨w,ew,rw'⟩:=r.get he
 have hl:=r.length
 have hn:=iY
 have hi:=(List.getElem?_eq_some_iff.mp he).1
 exact wpAny_getItem_list pl.isList (by omega) (by omega) (by simpa using ew) ⟨v,H,I,rw',q⟩
theorem iq {o i e:Expr} {to ti te:TE} {tget:V->V->Hp->VK->Prop} {tip:xx} {tset:nY} {op:Operator} {tpos:Pos} (ho:QE X o to) (hi:QE X i ti) (hg:Ao X tget) (he:QE X e te) (hp:AC X op tip) (hs:uK X tset)
  (ha:∀ ov iv new,augStore i ov iv new=(do holding [new,ov,iv] (setItem ov iv new);release [new,ov,iv] [];pure .next):=by intros;rfl):QS X (.AugAssign (.Subscript o i tpos) op e pos) (wW to ti te tget tip tset):=⟨vz ho.p hi.p hg he.p hp hs ha⟩
set_option autoImplicit true in
set_option relaxedAutoImplicit true in
theorem vf  (M:Mk X.K C f) (F:bh X.prog X.w X.K X.mg X.base CX k f fd ps sp) (hr:cr (k+1) X.A) (hg:Gl X x) (hm:X.mg x=some (.ref C)) (hb:aM X.K fd ps ds) (hd:aR dvs ds) (hx:dn CX X E) (ha:QA X (e :: es) t) (hdb:(x == ("__debug__" : Str))=false:=by decide) (he:starEach (e :: es) X.env=(false,eval e X.env) :: starEach es X.env:=by rfl) (hpl:(backTo pos (starEach es X.env)).any (·.1)=false:=by rfl):QE X (.Call (.Name x p) (e :: es) [] pos) (wS C sp dvs E t):=⟨vM M F hr hg hm hb hd hx ha.p hdb he hpl⟩
end
end B
namespace My
open PySem L2 B PyProof.Rows
theorem bT {X:Cx} {pos:Pos} (i:Nat) {x:Str} {e:Expr} {te:TE} {pos':Pos} (hN:X.N.Nodup) (he:QE X e te) (hi:X.N[i]?=some x:=by rfl) (hx:uL X.env.scope x:=by first | exact Or.inl rfl | exact Or.inr rfl) (hs:swapsWith e (some (.Name x pos')) pos.line X.env=pure false:=by rfl) (hf:X.fn x=true∨X.env.scope.names.lookup x=some .local:=by first | exact .inl rfl | exact .inr rfl | assumption):QS X (.Assign [.Name x pos'] e pos) (mR te (i9 i)):=yA hN hi hx he hs hf
theorem eN {N P:List Str} {sc:Scope} (a:sc.kind=.function:=by rfl) (b:sc.isCoroutine=false:=by rfl) (c:sc.isGenerator=false:=by rfl) (d:N.Nodup:=by decide +kernel) (e:N.take P.length=P:=by rfl) (f:∀ x∈P,sc.names.lookup x=some .local∨sc.names.lookup x=some .cell:=by decide +kernel) (g:∀ y∈sc.names,y.2≠.free:=by decide +kernel):aI N P sc:=⟨a,b,c,d,e,f,g⟩
theorem dr {X:Cx} {k j:Nat} {f:Addr} {fd:FuncData} {ps:List Str} {sp:Sp} {x:Str} {p pos:Pos} {e:Expr} {es:List Expr} {t:TA} (F:bh X.prog X.w X.K X.mg X.base dC k f fd ps sp) (hr:cr j X.A) (hm:X.mg x=some (.ref f)) (hk:PySem.W.keepIn X.K (.ref f)=true) (hb:aM X.K fd ps []) (ha:QA X (e :: es) t) (hl:k≤j:=by decide) (hg:Gl X x:=by rfl) (hdb:(x == ("__debug__" : Str))=false:=by decide) (he:starEach (e :: es) X.env=(false,eval e X.env) :: starEach es X.env:=by rfl) (hpl:(backTo pos (starEach es X.env)).any (·.1)=false:=by rfl):QE X (.Call (.Name x p) (e :: es) [] pos) (qI sp [] E0 t):=iu F (hr.mono hl) hg hm hk hb .nil c6 ha hdb he hpl
theorem bW {X:Cx} {a b:Expr} {ta tb:TE} {pos:Pos} {r:R2} (hr:Ar X r) (ha:QE X a ta) (hb:QE X b tb) (hs:k9 b:=by exact fun _ _=>rfl):QE X (.Subscript a b pos) (uT r ta tb):=bu hr ha hb hs
theorem FV {K:PySem.W.Frag} {x qual:Str} {st:Stmt} {f:Addr} {fd:FuncData} {ps:List Str} (F:dy K x qual st f fd) (h:∀ (kV doc pm:Value) (an:Option Addr) (cdv ct:Value) (us:List Value),us.length=ps.length->bindArgs (PySem.W.fnOf x qual (cK st) (cy st) (au st) .none kV doc pm an cdv ct) ⟨us,[]⟩=pure (ps.zip us):=by
 intro _ _ _ _ _ _ us hl
 match us,hl with
 | [],h2=>first | rfl | (simp at h2)
 | [_],h2=>first | rfl | (simp at h2)
 | [_,_],h2=>first | rfl | (simp at h2)
 | [_,_,_],h2=>first | rfl | (simp at h2)
 | [_,_,_,_],h2=>first | rfl | (simp at h2)
 | _ :: _ :: _ :: _ :: _ :: _,h2=>simp at h2):aM K fd ps []:=F.binds h
def top (i:Nat):Stmt:=PySem.Challenge.pw_paceplan_k60_work_speeds.main.body.getD i (.Pass ⟨0,0,0,0⟩)
abbrev yk:Stmt:=top 5
abbrev rj:Stmt:=top 6
abbrev rc:Stmt:=top 7
abbrev rh:Stmt:=top 8
abbrev qZ:Stmt:=top 9
abbrev rg:Stmt:=top 10
abbrev rT:Stmt:=top 11
abbrev rN:Stmt:=top 14
abbrev rP:Stmt:=top 17
abbrev qY:Stmt:=top 18
abbrev yj:Stmt:=top 19
abbrev re:Stmt:=top 20
abbrev rS:Stmt:=top 21
abbrev rR:Stmt:=top 23
abbrev rM:Stmt:=top 24
abbrev rH:Stmt:=top 25
abbrev rD:Stmt:=top 26
abbrev rC:Stmt:=top 27
abbrev rL:Stmt:=top 28
abbrev rp:Stmt:=top 29
abbrev rK:Stmt:=top 30
abbrev rJ:Stmt:=top 31
abbrev rA:Stmt:=top 32
abbrev rq:Stmt:=top 33
abbrev rQ:Stmt:=top 34
abbrev rO:Stmt:=top 35
abbrev qX:Stmt:=top 36
abbrev ye:Stmt:=cS (top 16) 0
abbrev yf:Stmt:=cS (top 16) 1
abbrev yh:Stmt:=cS (top 16) 2
abbrev yi:Stmt:=cS (top 16) 3
abbrev yn:Stmt:=cS (top 16) 4
abbrev ym:Stmt:=cS (top 16) 5
abbrev yo:Stmt:=cS (top 16) 6
abbrev rW:Stmt:=cS (top 16) 7
abbrev rV:Stmt:=cS (top 16) 8
abbrev yg:Stmt:=cS (top 16) 9
structure Ad where
 a_Q3:Addr
 d_Q3:FuncData
 a_Q31:Addr
 d_Q31:FuncData
 a_Q35:Addr
 d_Q35:FuncData
 a_Q32:Addr
 d_Q32:FuncData
 a_Q36:Addr
 d_Q36:FuncData
 a_Q33:Addr
 d_Q33:FuncData
 a_Q12:Addr
 d_Q12:FuncData
 a_Q18:Addr
 d_Q18:FuncData
 a_Q16:Addr
 d_Q16:FuncData
 a_Q37:Addr
 d_Q37:FuncData
 a_Q4:Addr
 d_Q4:FuncData
 a_Q34:Addr
 d_Q34:FuncData
 a_Q13:Addr
 d_Q13:FuncData
 a_Q14:Addr
 d_Q14:FuncData
 a_Q19:Addr
 d_Q19:FuncData
 a_Q24:Addr
 d_Q24:FuncData
 a_Q25:Addr
 d_Q25:FuncData
 a_Q26:Addr
 d_Q26:FuncData
 a_Q20:Addr
 d_Q20:FuncData
 a_Q30:Addr
 d_Q30:FuncData
 a_Q21:Addr
 d_Q21:FuncData
 a_Q22:Addr
 d_Q22:FuncData
 a_Q27:Addr
 d_Q27:FuncData
 a_Q28:Addr
 d_Q28:FuncData
 a_Q15:Addr
 d_Q15:FuncData
 a_Q17:Addr
 d_Q17:FuncData
 a_Q38:Addr
 d_Q38:FuncData
 a_Q9:Addr
 d_Q9:FuncData
 a_Q8:Addr
 d_Q8:FuncData
 a_Q6:Addr
 d_Q6:FuncData
 a_Q5:Addr
 d_Q5:FuncData
 a_Q1:Addr
 d_Q1:FuncData
 a_Q2:Addr
 d_Q2:FuncData
 a_Q0:Addr
 d_Q0:FuncData
 a_Q10:Addr
 d_Q10:FuncData
 a_Q11:Addr
 d_Q11:FuncData
 a_Q7:Addr
 d_Q7:FuncData
 c_Pouring:Addr
 c_NOUGHT:Addr
 k_TURNS:Tok
 c_Q23:Addr
 c_Q29:Addr
structure eK (K:PySem.W.Frag) (mg:Str->Option Value) (t:Ad):Prop where
 F_Q3:dy K "greatest_divisor" "greatest_divisor" yk t.a_Q3 t.d_Q3
 b_Q3:aM K t.d_Q3 ["one", "other"] []
 m_Q3:mg "greatest_divisor" = some (.ref t.a_Q3)
 F_Q31:dy K "ratio" "ratio" rj t.a_Q31 t.d_Q31
 b_Q31:aM K t.d_Q31 ["top", "bottom"] []
 m_Q31:mg "ratio" = some (.ref t.a_Q31)
 F_Q35:dy K "plus" "plus" rc t.a_Q35 t.d_Q35
 b_Q35:aM K t.d_Q35 ["one", "other"] []
 m_Q35:mg "plus" = some (.ref t.a_Q35)
 F_Q32:dy K "times" "times" rh t.a_Q32 t.d_Q32
 b_Q32:aM K t.d_Q32 ["one", "other"] []
 m_Q32:mg "times" = some (.ref t.a_Q32)
 F_Q36:dy K "over" "over" qZ t.a_Q36 t.d_Q36
 b_Q36:aM K t.d_Q36 ["one", "other"] []
 m_Q36:mg "over" = some (.ref t.a_Q36)
 F_Q33:dy K "total" "total" rg t.a_Q33 t.d_Q33
 b_Q33:aM K t.d_Q33 ["some"] []
 m_Q33:mg "total" = some (.ref t.a_Q33)
 F_Q12:dy K "whole_parts" "whole_parts" rT t.a_Q12 t.d_Q12
 b_Q12:aM K t.d_Q12 ["some"] []
 m_Q12:mg "whole_parts" = some (.ref t.a_Q12)
 F_Q18:dy K "in_window" "in_window" rN t.a_Q18 t.d_Q18
 b_Q18:aM K t.d_Q18 ["work", "turn"] []
 m_Q18:mg "in_window" = some (.ref t.a_Q18)
 F_Q16:dy K "busy_hands" "busy_hands" rP t.a_Q16 t.d_Q16
 b_Q16:aM K t.d_Q16 ["works", "free"] []
 m_Q16:mg "busy_hands" = some (.ref t.a_Q16)
 F_Q37:dy K "pace" "pace" qY t.a_Q37 t.d_Q37
 b_Q37:aM K t.d_Q37 ["works", "free"] []
 m_Q37:mg "pace" = some (.ref t.a_Q37)
 F_Q4:dy K "tightest_pouring" "tightest_pouring" yj t.a_Q4 t.d_Q4
 b_Q4:aM K t.d_Q4 ["works", "free"] []
 m_Q4:mg "tightest_pouring" = some (.ref t.a_Q4)
 F_Q34:dy K "paced" "paced" re t.a_Q34 t.d_Q34
 b_Q34:aM K t.d_Q34 ["works", "hands"] []
 m_Q34:mg "paced" = some (.ref t.a_Q34)
 F_Q13:dy K "work_speeds" "work_speeds" rS t.a_Q13 t.d_Q13
 b_Q13:aM K t.d_Q13 ["works", "hands"] []
 m_Q13:mg "work_speeds" = some (.ref t.a_Q13)
 F_Q14:dy K "_law_cell_at" "_law_cell_at" rR t.a_Q14 t.d_Q14
 b_Q14:aM K t.d_Q14 ["_law_script", "_law_k"] []
 m_Q14:mg "_law_cell_at" = some (.ref t.a_Q14)
 F_Q19:dy K "_law_draws" "_law_draws" rM t.a_Q19 t.d_Q19
 b_Q19:aM K t.d_Q19 ["_law_cell", "_law_many"] []
 m_Q19:mg "_law_draws" = some (.ref t.a_Q19)
 F_Q24:dy K "_law_take" "_law_take" rH t.a_Q24 t.d_Q24
 b_Q24:aM K t.d_Q24 ["_law_tape", "_law_many"] []
 m_Q24:mg "_law_take" = some (.ref t.a_Q24)
 F_Q25:dy K "_law_made" "_law_made" rD t.a_Q25 t.d_Q25
 b_Q25:aM K t.d_Q25 ["_law_top", "_law_bottom"] []
 m_Q25:mg "_law_made" = some (.ref t.a_Q25)
 F_Q26:dy K "_law_plus" "_law_plus" rC t.a_Q26 t.d_Q26
 b_Q26:aM K t.d_Q26 ["_law_one", "_law_other"] []
 m_Q26:mg "_law_plus" = some (.ref t.a_Q26)
 F_Q20:dy K "_law_times" "_law_times" rL t.a_Q20 t.d_Q20
 b_Q20:aM K t.d_Q20 ["_law_one", "_law_other"] []
 m_Q20:mg "_law_times" = some (.ref t.a_Q20)
 F_Q30:dy K "_law_by" "_law_by" rp t.a_Q30 t.d_Q30
 b_Q30:aM K t.d_Q30 ["_law_one", "_law_other"] []
 m_Q30:mg "_law_by" = some (.ref t.a_Q30)
 F_Q21:dy K "_law_total" "_law_total" rK t.a_Q21 t.d_Q21
 b_Q21:aM K t.d_Q21 ["_law_some"] []
 m_Q21:mg "_law_total" = some (.ref t.a_Q21)
 F_Q22:dy K "_law_works" "_law_works" rJ t.a_Q22 t.d_Q22
 b_Q22:aM K t.d_Q22 ["_law_tape", "_law_most", "_law_turns"] []
 m_Q22:mg "_law_works" = some (.ref t.a_Q22)
 F_Q27:dy K "_law_busy" "_law_busy" rA t.a_Q27 t.d_Q27
 b_Q27:aM K t.d_Q27 ["_law_works_here", "_law_some", "_law_rooms"] []
 m_Q27:mg "_law_busy" = some (.ref t.a_Q27)
 F_Q28:dy K "_law_sets" "_law_sets" rq t.a_Q28 t.d_Q28
 b_Q28:aM K t.d_Q28 ["_law_stay"] []
 m_Q28:mg "_law_sets" = some (.ref t.a_Q28)
 F_Q15:dy K "_law_fastest" "_law_fastest" rQ t.a_Q15 t.d_Q15
 b_Q15:aM K t.d_Q15 ["_law_works_here", "_law_stay", "_law_rooms"] []
 m_Q15:mg "_law_fastest" = some (.ref t.a_Q15)
 F_Q17:dy K "_law_speeds" "_law_speeds" rO t.a_Q17 t.d_Q17
 b_Q17:aM K t.d_Q17 ["_law_works_here", "_law_hands"] []
 m_Q17:mg "_law_speeds" = some (.ref t.a_Q17)
 F_Q38:dy K "law" "law" qX t.a_Q38 t.d_Q38
 b_Q38:aM K t.d_Q38 ["_law_script"] []
 m_Q38:mg "law" = some (.ref t.a_Q38)
 F_Q9:dy K "__init__" "Pouring.__init__" ye t.a_Q9 t.d_Q9
 b_Q9:aM K t.d_Q9 ["self", "works", "free", "speed"] []
 K_Pouring:L2.Mk K t.c_Pouring t.a_Q9
 F_Q8:dy K "beside" "Pouring.beside" yf t.a_Q8 t.d_Q8
 b_Q8:aM K t.d_Q8 ["self", "node"] []
 M_Pouring_beside:fY K t.c_Pouring "beside" t.a_Q8
 F_Q6:dy K "reached" "Pouring.reached" yh t.a_Q6 t.d_Q6
 b_Q6:aM K t.d_Q6 ["self", "numbers"] []
 M_Pouring_reached:fY K t.c_Pouring "reached" t.a_Q6
 F_Q5:dy K "turns_of" "Pouring.turns_of" yi t.a_Q5 t.d_Q5
 b_Q5:aM K t.d_Q5 ["self", "sources"] []
 M_Pouring_turns_of:fY K t.c_Pouring "turns_of" t.a_Q5
 F_Q1:dy K "has_way_on" "Pouring.has_way_on" yn t.a_Q1 t.d_Q1
 b_Q1:aM K t.d_Q1 ["self", "number"] []
 M_Pouring_has_way_on:fY K t.c_Pouring "has_way_on" t.a_Q1
 F_Q2:dy K "pour_along" "Pouring.pour_along" ym t.a_Q2 t.d_Q2
 b_Q2:aM K t.d_Q2 ["self", "sources", "turn"] []
 M_Pouring_pour_along:fY K t.c_Pouring "pour_along" t.a_Q2
 F_Q0:dy K "most_between" "Pouring.most_between" yo t.a_Q0 t.d_Q0
 b_Q0:aM K t.d_Q0 ["self", "source", "node"] []
 M_Pouring_most_between:fY K t.c_Pouring "most_between" t.a_Q0
 F_Q10:dy K "move" "Pouring.move" rW t.a_Q10 t.d_Q10
 b_Q10:aM K t.d_Q10 ["self", "source", "node", "amount"] []
 M_Pouring_move:fY K t.c_Pouring "move" t.a_Q10
 F_Q11:dy K "pour" "Pouring.pour" rV t.a_Q11 t.d_Q11
 b_Q11:aM K t.d_Q11 ["self"] []
 M_Pouring_pour:fY K t.c_Pouring "pour" t.a_Q11
 F_Q7:dy K "amounts" "Pouring.amounts" yg t.a_Q7 t.d_Q7
 b_Q7:aM K t.d_Q7 ["self", "number"] []
 M_Pouring_amounts:fY K t.c_Pouring "amounts" t.a_Q7
 m_Pouring:mg "Pouring" = some (.ref t.c_Pouring)
 cl_Pouring:oi K t.c_Pouring
 n_Pouring_inside:cv K t.c_Pouring "inside"
 n_Pouring_most:cv K t.c_Pouring "most"
 n_Pouring_whole:cv K t.c_Pouring "whole"
 n_Pouring_rest:cv K t.c_Pouring "rest"
 n_Pouring_room:cv K t.c_Pouring "room"
 n_Pouring_poured:cv K t.c_Pouring "poured"
 m_NOUGHT:mg "NOUGHT" = some (.ref t.c_NOUGHT)
 q_NOUGHT:∀ H,bS K H t.c_NOUGHT [.int (0),.int (1)]
 m_TURNS:mg "TURNS" = some (.int (24) t.k_TURNS)
 m_Q23:mg "PaceError" = some (.ref t.c_Q23)
 m_Q29:mg "NoRatio" = some (.ref t.c_Q29)
 z_abs:mg "abs" = none
 z_any:mg "any" = none
 z_enumerate:mg "enumerate" = none
 z_len:mg "len" = none
 z_list:mg "list" = none
 z_min:mg "min" = none
 z_range:mg "range" = none
 z_repr:mg "repr" = none
 z_set:mg "set" = none
 z_sorted:mg "sorted" = none
 z_sum:mg "sum" = none
 z_tuple:mg "tuple" = none
def fH (_:PySem.W.Frag):Sp:=fun vs H Q _=>∃ a b:Int,vs=[.int a,.int b]/\Q (.int (Int.gcd a b:Nat)) H
def kG (H:Hp) (Q:VK) (r:R):Prop:=∀ p,H p=none->Q (.ref p) (ax H p (.tup [.int r.1,.int r.2]))
def DG (K:PySem.W.Frag) (H:Hp) (Q:VK) (r:R):Prop:=∀ (v:V) (H':Hp),az H H'->RV K H' v r->Q v H'
def qP (_:PySem.W.Frag):Sp:=fun vs H Q _=>∃ a b:Int,vs=[.int a,.int b]/\0 < b/\b.natAbs < 2 ^ 4000/\kG H Q (cX a b)
def uX (K:PySem.W.Frag):Sp:=fun vs H Q _=>∃ (v w:V) (r q:R) (n m:Nat),vs=[v,w]/\RV K H v r/\RV K H w q/\Wf n r/\Wf m q/\n+m+1≤3000/\kG H Q (bU r q)
def qO (K:PySem.W.Frag):Sp:=fun vs H Q _=>∃ (v w:V) (r q:R) (n m:Nat),vs=[v,w]/\RV K H v r/\RV K H w q/\Wf n r/\Wf m q/\n+m+1≤3000/\kG H Q (bA r q)
def Fr (K:PySem.W.Frag) (H:Hp) (a:Addr) (xs:List V):Prop:=aF K H a xs∨bS K H a xs
def qN (K:PySem.W.Frag):Sp:=fun vs H Q _=>∃ (a:Addr) (xs:List V) (rs:List R) (n D:Nat),vs=[.ref a]/\Fr K H a xs/\CH K H xs rs/\(∀ r∈rs,Wf n r/\r.2∣(D:Int))/\0 < D/\D < 2 ^ n/\rs.length≤64/\n≤900/\∀ (v':V) (H':Hp),az H H'->RV K H' v' (dD rs)->Q v' H'
theorem pd {D i n:Nat} {ps:List (Int×Int)} {r:R} (h:∀ p∈ps,p.1∣(D:Int)) (hr:r.2∣(D:Int)):∀ p∈dJ ps r.2 r.1,p.1∣(D:Int):=fun p hp=>by
 rcases (gD ps r.2 r.1 p.1).mp (List.mem_map.mpr ⟨p,hp,rfl⟩) with z | z
 ·obtain⟨q,hq,e⟩:=List.mem_map.mp z
  rw [← e]
  exact h q hq
 ·rw [z];exact hr
theorem uf {D n i:Nat} {ps:List (Int×Int)} (ok:ij n i ps) (hd:∀ p∈ps,p.1∣(D:Int)) (hi:i≤64) {q:Int×Int} (hq:q∈ps):Bq D (64 * 2 ^ n) (cX q.2 q.1):=by
 have b:=(ok.bot q hq).1
 refine oZ b (hd q hq) (Nat.le_trans (ok.top q hq) ?_)
 refine Nat.le_trans (Nat.mul_le_mul_right _ hi) (Nat.le_mul_of_pos_right _ (by omega))
theorem uH {D n j:Nat} {r:R} (h:Bq D (64 * 2 ^ n * j) r) (hj:j≤64) (h0:0 < D) (hD:D < 2 ^ n):Wf (2 * n+12) r:=by
 refine h.wf h0 (Nat.lt_of_lt_of_le hD (Nat.pow_le_pow_right (by decide) (by omega))) ?_
 have a:64 * 2 ^ n * j≤64 * 2 ^ n * 64:=Nat.mul_le_mul_left _ hj
 have b:64 * 2 ^ n * j * D < 64 * 2 ^ n * 64 * 2 ^ n:=Nat.lt_of_le_of_lt (Nat.mul_le_mul_right _ a) (Nat.mul_lt_mul_of_pos_left hD (Nat.mul_pos (Nat.mul_pos (by decide) (Nat.pow_pos (by decide))) (by decide)))
 refine Nat.lt_of_lt_of_le b ?_
 rw [show 2 * n+12=n+(n+12) by omega,Nat.pow_add,Nat.pow_add,show (2:Nat) ^ 12=4096 by decide]
 rw [show 64 * 2 ^ n * 64 * 2 ^ n=2 ^ n * (2 ^ n * 4096) by rw [show (4096:Nat)=64 * 64 by decide];ac_rfl]
 exact Nat.le_refl _
theorem eZ {a g:Int} (hg:0 < g) (h:a.natAbs < 2 ^ 4000):(a / g).natAbs < 2 ^ 4000:=Nat.lt_of_le_of_lt (dG a hg) h
theorem i7 {a b:Int} (hb:0 < b) (h:b.natAbs < 2 ^ 4000):((Int.gcd a b:Nat):Int).natAbs < 2 ^ 4000:=by
 have z:Int.gcd a b≤b.natAbs:=Nat.le_of_dvd (by omega) (by have:=Int.gcd_dvd_right a b;exact Int.natAbs_dvd_natAbs.mpr this)
 have e:((Int.gcd a b:Nat):Int).natAbs=Int.gcd a b:=Int.natAbs_natCast _
 omega
theorem aW {i:Int} {n:Nat} (h:i.natAbs < 2 ^ n) (hn:n≤4000):i.natAbs < 2 ^ 4000:=Nat.lt_of_lt_of_le h (Nat.pow_le_pow_right (by decide) hn)
def uZ (K:PySem.W.Frag):Sp:=fun vs H Q _=>∃ (v w:V) (r:R) (n m:Nat),vs=[v,w]/\RV K H v r/\RV K H w ((m:Int),1)/\Wf n r/\0 < m/\m≤200/\n≤2000/\DG K H Q (bA r (1,(m:Int)))
theorem zJ {m:Nat} (h:0 < m):cX 1 (m:Int)=(1,(m:Int)):=dk (by omega) (by omega) (by simp) (by omega)
theorem za {m:Nat} (h:0 < m) (h':m≤200):Wf 8 ((1,(m:Int)):R):=⟨by show (0:Int) < m;omega,by show (1:Int).natAbs < 2 ^ 8;decide,by show ((m:Int)).natAbs < 256;omega,by simp⟩
theorem wG {K:PySem.W.Frag} {H:Hp} {xs:List V} {rs:List R} (h:cQ (RV K H) xs rs):CH K H xs rs:=⟨h.len,fun i x r hx hr=>by obtain⟨d,hd,p⟩:=h.at hx;rw [hr] at hd;cases hd;exact p⟩
theorem ix {n t:Nat} (h:t < n):tX n (t:Int)=some t:=by
 unfold tX
 simp
 omega
abbrev Wk:=Nat×Nat×R
def jn (K:PySem.W.Frag) (H:Hp) (v:V) (w:Wk):Prop:=∃ p x,v=.ref p/\bS K H p [.int w.1,.int w.2.1,x]/\RV K H x w.2.2
theorem jn.mono {K:PySem.W.Frag} {H H':Hp} {v:V} {w:Wk} (h:jn K H v w) (t:be K H H'):jn K H' v w:=let ⟨p,x,e,s,r⟩:=h;⟨p,x,e,t _ _ s,r.mono t⟩
def ii (K:PySem.W.Frag) (H:Hp) (v:V) (ws:List Wk):Prop:=∃ p xs,v=.ref p/\bS K H p xs/\cQ (jn K H) xs ws
theorem ii.mono {K:PySem.W.Frag} {H H':Hp} {v:V} {ws:List Wk} (h:ii K H v ws) (t:be K H H'):ii K H' v ws:=let ⟨p,xs,e,s,a⟩:=h;⟨p,xs,e,t _ _ s,a.mono fun _ _ q=>q.mono t⟩
def av (ls:List Nat):List V:=ls.map fun n:Nat=>V.int n
def fL (w:Wk) (t:Nat):Bool:=decide (w.1≤t) && decide (t≤w.2.1)
def kh (K:PySem.W.Frag):Sp:=fun vs H Q _=>∃ (v:V) (w:Wk) (t:Nat),vs=[v,.int t]/\jn K H v w/\Q (.bl (fL w t)) H
theorem fb {k:Nat}:∀ {ds:List PyData},(∀ d∈ds,d.depth≤k)->PyData.depthAll ds≤k
 | [],_=>Nat.zero_le _
 | d :: ds,h=>Nat.max_le.mpr ⟨h d List.mem_cons_self,fb fun e he=>h e (List.mem_cons_of_mem _ he)⟩
def uN (w:Wk):PyData:=.tuple [.int w.1,.int w.2.1,dR w.2.2]
def Ac (ws:List Wk):PyData:=.tuple (ws.map uN)
def cC:Wk:=(0,0,(0,1))
theorem qL {D N:Nat} (hD:0 < D):∀ {rs:List R},(∀ r∈rs,Bq D N r)->∀ {a:R} {M:Nat},Bq D M a->Bq D (M+N * rs.length) (rs.foldl bU a)
 | [],_,a,M,h=>by simpa using h
 | r :: rs,hr,a,M,h=>by
  have:=qL hD (fun q hq=>hr q (List.mem_cons_of_mem _ hq)) (h.plus hD (hr r List.mem_cons_self))
  rw [List.foldl_cons,List.length_cons,Nat.mul_succ]
  refine this.mono (Nat.dvd_refl _) (by omega)
theorem Dp {D:Nat}:Bq D 0 ((0,1):R):=⟨by decide,by decide,⟨(D:Int),by show (D:Int)=1 * D;omega⟩,by show 0≤_;exact Nat.zero_le _⟩
theorem ip {D N:Nat} (hD:0 < D) {rs:List R} (h:∀ r∈rs,Bq D N r):Bq D (N * rs.length) (dD rs):=by
 have:=qL hD h (Dp (D:=D))
 rw [Nat.zero_add] at this
 exact this
theorem bZ {ls:List Nat} {i:Nat} {x:V} (h:(av ls)[i]?=some x):∃ n,ls[i]?=some n/\x=.int (n:Nat):=by
 unfold av at h
 rw [List.getElem?_map] at h
 obtain⟨n,hn,rfl⟩:=Option.map_eq_some_iff.mp h
 exact⟨n,hn,rfl⟩
theorem Dg {B b:Int} {D:Nat} (hB:0 < B) (hb:0 < b) (h1:B∣(D:Int)) (h2:b∣(D:Int)):0 < B * (b / (Int.gcd B b:Int))/\B * (b / (Int.gcd B b:Int))∣(D:Int)/\B∣B * (b / (Int.gcd B b:Int))/\b∣B * (b / (Int.gcd B b:Int)):=by
 obtain⟨m,rfl⟩:=Int.eq_ofNat_of_zero_le (Int.le_of_lt hB)
 obtain⟨n,rfl⟩:=Int.eq_ofNat_of_zero_le (Int.le_of_lt hb)
 have e:(m:Int) * ((n:Int) / (Int.gcd m n:Int))=((Nat.lcm m n:Nat):Int):=by
  show (m:Int) * ((n:Int) / ((Nat.gcd m n:Nat):Int))=_
  rw [← Int.natCast_ediv,← Int.natCast_mul]
  unfold Nat.lcm
  rw [Nat.mul_div_assoc _ (Nat.gcd_dvd_right m n)]
 rw [e]
 have p:=Nat.lcm_pos (show 0 < m by omega) (show 0 < n by omega)
 exact⟨by omega,Int.natCast_dvd_natCast.mpr (Nat.lcm_dvd (Int.natCast_dvd_natCast.mp h1) (Int.natCast_dvd_natCast.mp h2)),Int.natCast_dvd_natCast.mpr (Nat.dvd_lcm_left m n),Int.natCast_dvd_natCast.mpr (Nat.dvd_lcm_right m n)⟩
def xF (B:Int) (rs:List R):List Int:=rs.map fun r=>r.1 * (B / r.2)
theorem uC {z:Int} {n:Nat} (h0:0≤z) (h:z≤(n:Int)) (hn:n < 2 ^ 300):z.natAbs < 2 ^ 4000:=Nat.lt_of_le_of_lt (show z.natAbs≤n by omega) (Nat.lt_of_lt_of_le hn (Nat.pow_le_pow_right (by decide) (by decide)))
def iH (K:PySem.W.Frag):Sp:=fun vs H Q _=>∃ (a:Addr) (xs:List V) (rs:List R) (D:Nat),vs=[.ref a]/\aF K H a xs/\cQ (RV K H) xs rs/\rs.length≤60/\0 < D/\D < 2 ^ 300/\(∀ r∈rs,0 < r.2/\r.2∣(D:Int)/\r.1.natAbs < 2 ^ 4000)/\∀ (l:Addr) (B:Int) (H':Hp),az H H'->H l=none->0 < B->B∣(D:Int)->(∀ r∈rs,r.2∣B)->H' l=some (.lst ((xF B rs).map V.int))->Q (.ref l) H'
def bD (ws:List Wk) (t:Nat):Nat:=(ws.filter fun w=>fL w t).length
def bX (ws:List Wk) (fr:List Nat):List Nat:=(List.range fr.length).map fun t=>min (fr.getD t 0) (bD ws t)
def jq (K:PySem.W.Frag):Sp:=fun vs H Q _=>∃ (a b:Addr) (xs:List V) (ws:List Wk) (fr:List Nat),vs=[.ref a,.ref b]/\aF K H a xs/\cQ (jn K H) xs ws/\ws.length≤20/\aF K H b (av fr)/\fr.length=24/\∀ (l:Addr) (H':Hp),az H H'->H l=none->H' l=some (.lst (av (bX ws fr)))->Q (.ref l) H'
def bi (ws:List Wk) (fr:List Nat):Nat:=(bX ws fr).sum
def bH (ws:List Wk) (fr:List Nat):R:=bA (dD (ws.map fun w=>w.2.2)) (1,(bi ws fr:Int))
def uY (K:PySem.W.Frag):Sp:=fun vs H Q _=>∃ (a b:Addr) (xs:List V) (ws:List Wk) (fr:List Nat),vs=[.ref a,.ref b]/\aF K H a xs/\cQ (jn K H) xs ws/\ws.length≤20/\(∀ w∈ws,Bq 84 12 w.2.2)/\aF K H b (av fr)/\fr.length=24/\0 < bi ws fr/\bi ws fr≤200/\DG K H Q (bH ws fr)
theorem gx (l:List Nat):av l=(l.map fun n:Nat=>(n:Int)).map V.int:=by unfold av;rw [List.map_map];rfl
theorem ka:∀ l:List Nat,(l.map fun n:Nat=>(n:Int)).sum=(l.sum:Nat)
 | []=>rfl
 | a :: l=>by
  rw [List.map_cons,List.sum_cons,List.sum_cons,ka l]
  omega
def sm (f:Nat->Int):Nat->Int
 | 0=>0
 | n+1=>sm f n+f n
theorem bB {f g:Nat->Int}:∀ {n:Nat},(∀ i,i < n->f i=g i)->sm f n=sm g n
 | 0,_=>rfl
 | n+1,h=>by
  show sm f n+f n=sm g n+g n
  rw [bB fun i hi=>h i (by omega),h n (by omega)]
theorem dS {f g:Nat->Int}:∀ {n:Nat},(∀ i,i < n->f i≤g i)->sm f n≤sm g n
 | 0,_=>Int.le_refl _
 | n+1,h=>by
  show sm f n+f n≤sm g n+g n
  have:=dS (f:=f) (g:=g) (n:=n) fun i hi=>h i (by omega)
  have:=h n (by omega)
  omega
theorem gf {f g:Nat->Int}:∀ {n:Nat},(∀ i,i < n->f i≤g i)->sm f n=sm g n->∀ i,i < n->f i=g i
 | 0,_,_,i,hi=>by omega
 | n+1,h,e,i,hi=>by
  have e':sm f n+f n=sm g n+g n:=e
  have a:=dS (f:=f) (g:=g) (n:=n) fun i hi=>h i (by omega)
  have b:=h n (by omega)
  by_cases c:i=n
  ·subst c;omega
  ·exact gf (fun i hi=>h i (by omega)) (show sm f n=sm g n by omega) i (by omega)
theorem iL {f g:Nat->Int}:∀ n:Nat,sm (fun i=>f i+g i) n=sm f n+sm g n
 | 0=>rfl
 | n+1=>by
  show sm _ n+(f n+g n)=sm f n+f n+(sm g n+g n)
  rw [iL n]
  omega
theorem fU (c:Int) {f:Nat->Int}:∀ n:Nat,sm (fun i=>c * f i) n=c * sm f n
 | 0=>(Int.mul_zero c).symm
 | n+1=>by
  show sm _ n+c * f n=c * (sm f n+f n)
  rw [fU c n,Int.mul_add]
theorem eg:∀ n:Nat,sm (fun _=>0) n=0
 | 0=>rfl
 | n+1=>by
  show sm _ n+0=0
  rw [eg n]
  rfl
theorem oC (f:Nat->Nat->Int) (m:Nat):∀ n:Nat,sm (fun i=>sm (fun t=>f i t) m) n=sm (fun t=>sm (fun i=>f i t) n) m
 | 0=>(eg m).symm
 | n+1=>by
  show sm _ n+sm (fun t=>f n t) m=sm (fun t=>sm (fun i=>f i t) n+f n t) m
  rw [oC f m n,iL]
theorem A5 {f:Nat->Int} {n:Nat} (h:∀ i,i < n->0≤f i):0≤sm f n:=by
 have:=dS (f:=fun _=>0) (g:=f) (n:=n) h
 rw [eg] at this
 exact this
theorem mS {f:Nat->Int} {n i:Nat} (h:∀ i,i < n->0≤f i) (hi:i < n):f i≤sm f n:=by
 induction n with
 | zero=>omega
 | succ n ih=>
  show f i≤sm f n+f n
  have a:=A5 (f:=f) (n:=n) fun i hi=>h i (by omega)
  have b:=h n (by omega)
  by_cases c:i=n
  ·subst c;omega
  ·have:=ih (fun i hi=>h i (by omega)) (by omega)
   omega
def iB (b:Bool) (x:Int):Int:=if b=true then x else 0
theorem BS (x:Int):iB true x=x:=rfl
theorem uc (x:Int):iB false x=0:=rfl
theorem BT (b:Bool) (f:Nat->Int) (m:Nat):iB b (sm f m)=sm (fun t=>iB b (f t)) m:=by
 cases b with
 | true=>rfl
 | false=>exact (eg m).symm
structure dq where
 n:Nat
 win:Nat->Nat->Bool
 A:Nat->Int
 fr:Nat->Nat
 M:Int
def dq.cnt (N:dq) (S:Nat->Bool) (t:Nat):Int:=sm (fun i=>iB (S i && N.win i t) 1) N.n
def dq.busy (N:dq) (S:Nat->Bool) (t:Nat):Int:=min (N.fr t:Int) (N.cnt S t)
def dq.bz (N:dq) (S:Nat->Bool):Int:=sm (N.busy S) 24
def dq.am (N:dq) (S:Nat->Bool):Int:=sm (fun i=>iB (S i) (N.A i)) N.n
def dq.rest (N:dq) (P:Nat->Nat->Int) (i:Nat):Int:=N.A i - sm (P i) 24
def dq.room (N:dq) (P:Nat->Nat->Int) (t:Nat):Int:=N.M * N.fr t - sm (fun i=>P i t) N.n
structure ik (N:dq) (P:Nat->Nat->Int):Prop where
 m0:0≤N.M
 lo:∀ i t,i < N.n->t < 24->0≤P i t
 hi:∀ i t,i < N.n->t < 24->P i t≤N.M
 out:∀ i t,i < N.n->t < 24->N.win i t=false->P i t=0
 rs:∀ i,i < N.n->0≤N.rest P i
 rm:∀ t,t < 24->0≤N.room P t
section
variable {N:dq} {P:Nat->Nat->Int}
theorem ik.col (F:ik N P) (S:Nat->Bool) {t:Nat} (ht:t < 24):sm (fun i=>iB (S i) (P i t)) N.n≤N.M * N.busy S t:=by
 have a:sm (fun i=>iB (S i) (P i t)) N.n≤sm (fun i=>P i t) N.n:=dS fun i hi=>by
  have:=F.lo i t hi ht
  cases S i with
  | true=>exact Int.le_refl _
  | false=>exact this
 have b:=F.rm t ht
 unfold dq.room at b
 have c:sm (fun i=>iB (S i) (P i t)) N.n≤N.M * N.cnt S t:=by
  unfold dq.cnt
  rw [← fU]
  refine dS fun i hi=>?_
  have h1:=F.hi i t hi ht
  have h0:=F.m0
  cases c1:S i with
  | false=>show (0:Int)≤N.M * iB (false && N.win i t) 1;rw [Bool.false_and,uc,Int.mul_zero];exact Int.le_refl _
  | true=>
   cases c2:N.win i t with
   | true=>show P i t≤N.M * 1;omega
   | false=>
    have:=F.out i t hi ht c2
    show P i t≤N.M * 0
    rw [this,Int.mul_zero]
    exact Int.le_refl _
 unfold dq.busy
 rcases Int.le_total (N.fr t:Int) (N.cnt S t) with z | z
 ·rw [Int.min_eq_left z];omega
 ·rw [Int.min_eq_right z];exact c
theorem kX (N:dq) (P:Nat->Nat->Int) (S:Nat->Bool):sm (fun i=>iB (S i) (N.A i - N.rest P i)) N.n=sm (fun t=>sm (fun i=>iB (S i) (P i t)) N.n) 24:=by
 rw [← oC]
 refine bB fun i _=>?_
 rw [← BT]
 congr 1
 unfold dq.rest
 omega
theorem ik.le (F:ik N P) (S:Nat->Bool):sm (fun i=>iB (S i) (N.A i - N.rest P i)) N.n≤N.M * N.bz S:=by
 rw [kX]
 unfold dq.bz
 rw [← fU]
 exact dS fun t ht=>F.col S ht
structure uJ (N:dq) (P:Nat->Nat->Int) (W T:Nat->Bool):Prop where
 fwd:∀ i t,i < N.n->t < 24->W i=true->N.win i t=true->P i t < N.M->T t=true
 full:∀ t,t < 24->T t=true->N.room P t=0
 bwd:∀ t i,t < 24->i < N.n->T t=true->0 < P i t->W i=true
theorem uJ.eq {W T:Nat->Bool} (C:uJ N P W T) (F:ik N P):sm (fun i=>iB (W i) (N.A i - N.rest P i)) N.n=N.M * N.bz W:=by
 refine Int.le_antisymm (F.le W) ?_
 rw [kX]
 unfold dq.bz
 rw [← fU]
 refine dS fun t ht=>?_
 have m0:=F.m0
 cases c:T t with
 | true=>
  have e:sm (fun i=>iB (W i) (P i t)) N.n=sm (fun i=>P i t) N.n:=bB fun i hi=>by
   cases d:W i with
   | true=>rfl
   | false=>
    have h0:=F.lo i t hi ht
    have:¬ 0 < P i t:=fun z=>by rw [C.bwd t i ht hi c z] at d;cases d
    show (0:Int)=P i t
    omega
  have r:=C.full t ht c
  unfold dq.room at r
  rw [e,show sm (fun i=>P i t) N.n=N.M * N.fr t by omega]
  exact Int.mul_le_mul_of_nonneg_left (Int.min_le_left _ _) m0
 | false=>
  have e:sm (fun i=>iB (W i) (P i t)) N.n=N.M * N.cnt W t:=by
   unfold dq.cnt
   rw [← fU]
   refine bB fun i hi=>?_
   cases d:W i with
   | false=>show (0:Int)=N.M * iB (false && N.win i t) 1;rw [Bool.false_and,uc,Int.mul_zero]
   | true=>
    cases d2:N.win i t with
    | false=>
     have:=F.out i t hi ht d2
     show P i t=N.M * 0
     rw [this,Int.mul_zero]
    | true=>
     have h1:=F.hi i t hi ht
     have:¬ P i t < N.M:=fun z=>by rw [C.fwd i t hi ht d d2 z] at c;cases c
     show P i t=N.M * 1
     omega
  rw [e]
  exact Int.mul_le_mul_of_nonneg_left (Int.min_le_right _ _) m0
theorem mO (F:ik N P) (fu:∀ i,i < N.n->N.rest P i=0) {S:Nat->Bool} (e:N.am S=N.M * N.bz S):∀ t,t < 24->sm (fun i=>iB (S i) (P i t)) N.n=N.M * N.busy S t:=by
 refine gf (fun t ht=>F.col S ht) ?_
 rw [← kX,fU]
 show _=N.M * N.bz S
 rw [← e]
 unfold dq.am
 refine bB fun i hi=>?_
 rw [fu i hi,Int.sub_zero]
theorem p8 {S:Nat->Bool} {f:Nat->Int} {n:Nat} (h:∀ i,i < n->0≤f i):sm (fun i=>iB (S i) (f i)) n≤sm f n:=dS fun i hi=>by
 have:=h i hi
 cases S i with
 | true=>exact Int.le_refl _
 | false=>exact this
theorem mN (F:ik N P) (fu:∀ i,i < N.n->N.rest P i=0) {S:Nat->Bool} (e:N.am S=N.M * N.bz S):∃ T:Nat->Bool,uJ N P S T:=by
 have cols:=mO F fu e
 refine⟨fun t=>(List.range N.n).any fun i=>S i && N.win i t && decide (P i t < N.M),?_⟩
 have key:∀ t,t < 24->(List.range N.n).any (fun i=>S i && N.win i t && decide (P i t < N.M))=true->sm (fun i=>iB (S i) (P i t)) N.n=N.M * N.fr t:=fun t ht h=>by
  obtain⟨i,hi,hb⟩:=List.any_eq_true.mp h
  rw [Bool.and_eq_true,Bool.and_eq_true,decide_eq_true_iff] at hb
  have hi':=List.mem_range.mp hi
  have c:=cols t ht
  have lt:sm (fun i=>iB (S i) (P i t)) N.n < N.M * N.cnt S t:=by
   unfold dq.cnt
   rw [← fU]
   have le:∀ i,i < N.n->iB (S i) (P i t)≤N.M * iB (S i && N.win i t) 1:=fun i hi=>by
    have h1:=F.hi i t hi ht
    cases c1:S i with
    | false=>show (0:Int)≤N.M * iB (false && N.win i t) 1;rw [Bool.false_and,uc,Int.mul_zero];exact Int.le_refl _
    | true=>
     cases c2:N.win i t with
     | true=>show P i t≤N.M * 1;omega
     | false=>
      have:=F.out i t hi ht c2
      show P i t≤N.M * 0
      rw [this,Int.mul_zero]
      exact Int.le_refl _
   have l:=dS le
   by_cases q:sm (fun i=>iB (S i) (P i t)) N.n=sm (fun i=>N.M * iB (S i && N.win i t) 1) N.n
   ·have:=gf le q i hi'
    rw [hb.1.1,hb.1.2] at this
    have e2:P i t=N.M * 1:=this
    have:=hb.2
    omega
   ·omega
  rw [c]
  rw [c] at lt
  unfold dq.busy at lt ⊢
  rcases Int.le_total (N.fr t:Int) (N.cnt S t) with z | z
  ·rw [Int.min_eq_left z]
  ·rw [Int.min_eq_right z] at lt;omega
 refine⟨fun i t hi ht w v p=>List.any_eq_true.mpr ⟨i,List.mem_range.mpr hi,by rw [w,v,decide_eq_true p];rfl⟩,fun t ht h=>?_,fun t i ht hi h p=>?_⟩
 ·have k:=key t ht h
  have a:=p8 (S:=S) (f:=fun i=>P i t) (n:=N.n) fun i hi=>F.lo i t hi ht
  have r:=F.rm t ht
  unfold dq.room at r ⊢
  omega
 ·have k:=key t ht h
  have r:=F.rm t ht
  unfold dq.room at r
  have le:∀ i,i < N.n->iB (S i) (P i t)≤P i t:=fun i hi=>by
   have:=F.lo i t hi ht
   cases S i with
   | true=>exact Int.le_refl _
   | false=>exact this
  have l:=dS le
  have q:=gf le (by omega) i hi
  cases d:S i with
  | true=>rfl
  | false=>
   rw [d,uc] at q
   omega
end
inductive fD (N:dq) (P:Nat->Nat->Int) (s:Nat->Prop):Nat->Prop where
 | st {i:Nat} (hi:i < N.n) (h:s i):fD N P s i
 | fw {i t:Nat} (r:fD N P s i) (hi:i < N.n) (ht:t < 24) (w:N.win i t=true) (p:P i t < N.M):fD N P s (N.n+t)
 | bw {t i:Nat} (r:fD N P s (N.n+t)) (ht:t < 24) (hi:i < N.n) (p:0 < P i t):fD N P s i
noncomputable def dB (p:Prop):Bool:=@decide p (Classical.propDecidable p)
theorem fJ {p:Prop}:dB p=true↔p:=@decide_eq_true_iff p (Classical.propDecidable p)
section
variable {N:dq} {P:Nat->Nat->Int} {s:Nat->Prop}
theorem fD.trans {j:Nat} (a:fD N P s j) (hj:j < N.n) {v:Nat} (b:fD N P (fun i=>i=j) v):fD N P s v:=by
 induction b with
 | st hi h=>subst h;exact a
 | fw r hi ht w p ih=>exact .fw ih hi ht w p
 | bw r ht hi p ih=>exact .bw ih ht hi p
theorem fD.node {v:Nat} (h:fD N P s v):v < N.n+24:=by
 cases h with
 | st hi _=>omega
 | fw _ _ ht _ _=>omega
 | bw _ _ hi _=>omega
noncomputable def wR (N:dq) (P:Nat->Nat->Int) (s:Nat->Prop):Nat->Bool:=fun i=>dB (fD N P s i)
noncomputable def tR (N:dq) (P:Nat->Nat->Int) (s:Nat->Prop):Nat->Bool:=fun t=>dB (fD N P s (N.n+t))
theorem rZ (full:∀ t,t < 24->fD N P s (N.n+t)->N.room P t=0):uJ N P (wR N P s) (tR N P s):=by
 refine⟨fun i t hi ht w v p=>?_,fun t ht h=>full t ht (fJ.mp h),fun t i ht hi h p=>?_⟩
 ·exact fJ.mpr (.fw (fJ.mp w) hi ht v p)
 ·exact fJ.mpr (.bw (fJ.mp h) ht hi p)
theorem uF (N:dq) (P:Nat->Nat->Int) (S:Nat->Bool):N.am S=sm (fun i=>iB (S i) (N.A i - N.rest P i)) N.n+sm (fun i=>iB (S i) (N.rest P i)) N.n:=by
 rw [← iL]
 unfold dq.am
 refine bB fun i _=>?_
 cases S i with
 | true=>show N.A i=N.A i - N.rest P i+N.rest P i;omega
 | false=>rfl
theorem A6 (F:ik N P) (full:∀ t,t < 24->fD N P (fun i=>0 < N.rest P i) (N.n+t)->N.room P t=0) {i:Nat} (hi:i < N.n) (h:0 < N.rest P i):N.M * N.bz (wR N P fun i=>0 < N.rest P i) < N.am (wR N P fun i=>0 < N.rest P i):=by
 have e:=(rZ full).eq F
 rw [uF N P,e]
 have nn:∀ j,j < N.n->0≤iB (wR N P (fun i=>0 < N.rest P i) j) (N.rest P j):=fun j hj=>by
  cases wR N P (fun i=>0 < N.rest P i) j with
  | true=>exact F.rs j hj
  | false=>exact Int.le_refl _
 have m:=mS nn hi
 have w:wR N P (fun i=>0 < N.rest P i) i=true:=fJ.mpr (.st hi h)
 rw [w,BS] at m
 omega
theorem Ai (F:ik N P) (fu:∀ i,i < N.n->N.rest P i=0) (S:Nat->Bool):N.am S≤N.M * N.bz S:=by
 have l:=F.le S
 refine Int.le_trans (Int.le_of_eq ?_) l
 unfold dq.am
 refine bB fun i hi=>?_
 rw [fu i hi,Int.sub_zero]
noncomputable def uR (N:dq) (P:Nat->Nat->Int):Nat->Bool:=fun i=>dB (∀ t,t < 24->fD N P (fun k=>k=i) (N.n+t)->N.room P t=0)
theorem uQ (F:ik N P) (fu:∀ i,i < N.n->N.rest P i=0):N.am (uR N P)=N.M * N.bz (uR N P):=by
 have C:uJ N P (uR N P) (fun t=>dB (∃ j,j < N.n/\uR N P j=true/\fD N P (fun k=>k=j) (N.n+t))):=by
  refine⟨fun i t hi ht w v p=>?_,fun t ht h=>?_,fun t i ht hi h p=>?_⟩
  ·exact fJ.mpr ⟨i,hi,w,.fw (.st hi rfl) hi ht v p⟩
  ·obtain⟨j,hj,u,r⟩:=fJ.mp h
   unfold uR at u
   exact fJ.mp u t ht r
  ·obtain⟨j,hj,u,r⟩:=fJ.mp h
   unfold uR at u ⊢
   have u':=fJ.mp u
   have ri:fD N P (fun k=>k=j) i:=.bw r ht hi p
   exact fJ.mpr fun t' ht' r'=>u' t' ht' (ri.trans hi r')
 have e:=C.eq F
 rw [← e]
 unfold dq.am
 refine bB fun i hi=>?_
 rw [fu i hi,Int.sub_zero]
theorem uS (F:ik N P) (fu:∀ i,i < N.n->N.rest P i=0) {S:Nat->Bool} (e:N.am S=N.M * N.bz S) {i:Nat} (hi:i < N.n) (h:S i=true):uR N P i=true:=by
 obtain⟨T,C⟩:=mN F fu e
 unfold uR
 refine fJ.mpr fun t ht r=>?_
 have key:∀ v,fD N P (fun k=>k=i) v->(v < N.n->S v=true)/\∀ t,t < 24->v=N.n+t->T t=true:=fun v r=>by
  induction r with
  | @st j hj hh=>
   refine⟨fun _=>by rw [hh];exact h,fun t _ z=>?_⟩
   omega
  | @fw j t' r hj ht' w p ih=>
   refine⟨fun z=>by omega,fun t _ z=>?_⟩
   obtain rfl:t'=t:=by omega
   exact C.fwd j t' hj ht' (ih.1 hj) w p
  | @bw t' j r ht' hj p ih=>
   refine⟨fun _=>C.bwd t' j ht' hj (ih.2 t' ht' rfl) p,fun t _ z=>by omega⟩
 exact C.full t ht ((key _ r).2 t ht rfl)
end
structure Ps where
 ws:List Wk
 fr:List Nat
 M:Int
 A:List Int
 R:List Int
 O:List Int
 P:List (List Int)
def Fl (M:Int) (li lw lr lo lp:Addr):List (Str×V):=[("inside", .ref li),("most", .int M),("whole", .ref lw),("rest", .ref lr),("room", .ref lo),("poured", .ref lp)]
structure fZ where
 a:Addr
 li:Addr
 lw:Addr
 lr:Addr
 lo:Addr
 lp:Addr
 rows:List Addr
def fZ.l (p:fZ):List Addr:=[p.a,p.lw,p.lr,p.lo,p.lp]++p.rows
structure d7 (K:PySem.W.Frag) (C:Addr) (H:Hp) (p:fZ) (s:Ps):Prop where
 ins:∃ dx,H p.a=some (.ins C dx (Fl s.M p.li p.lw p.lr p.lo p.lp))
 hi:∃ xs,aF K H p.li xs/\cQ (jn K H) xs s.ws
 hw:H p.lw=some (.lst (s.A.map V.int))
 hr:H p.lr=some (.lst (s.R.map V.int))
 ho:H p.lo=some (.lst (s.O.map V.int))
 hp:H p.lp=some (.lst (p.rows.map V.ref))
 rl:p.rows.length=s.P.length
 row:∀ (i:Nat) (q:Addr) (r:List Int),p.rows[i]?=some q->s.P[i]?=some r->H q=some (.lst (r.map V.int))
 nd:p.l.Nodup
 nl:p.li∉p.l
theorem d7.same {K:PySem.W.Frag} {C:Addr} {H H':Hp} {p:fZ} {s:Ps} (h:d7 K C H p s) (z:az H H'):d7 K C H' p s:=by
 obtain⟨dx,i⟩:=h.ins
 obtain⟨xs,x1,x2⟩:=h.hi
 exact⟨⟨dx,z _ _ i⟩,⟨xs,z.seq x1,x2.mono fun _ _ q=>q.mono (be.same z)⟩,z _ _ h.hw,z _ _ h.hr,z _ _ h.ho,z _ _ h.hp,h.rl,fun i q r a b=>z _ _ (h.row i q r a b),h.nd,h.nl⟩
structure dg (s:Ps):Prop where
 n20:s.ws.length≤20
 f24:s.fr.length=24
 wk:∀ w∈s.ws,w.1≤w.2.1/\w.2.1 < 24
 la:s.A.length=s.ws.length
 lr:s.R.length=s.ws.length
 lo:s.O.length=24
 lp:s.P.length=s.ws.length
 row:∀ r∈s.P,r.length=24
def Ps.pf (s:Ps) (i t:Nat):Int:=(s.P.getD i []).getD t 0
def Ps.net (s:Ps):dq:=⟨s.ws.length,fun i t=>fL (s.ws.getD i cC) t,fun i=>s.A.getD i 0,fun t=>s.fr.getD t 0,s.M⟩
theorem d7.cell {K:PySem.W.Frag} {C:Addr} {H:Hp} {p:fZ} {s:Ps} (pv:d7 K C H p s) (ok:dg s) {i t:Nat} (hi:i < s.ws.length) (ht:t < 24):∃ (q:Addr) (r:List Int),H p.lp=some (.lst (p.rows.map V.ref))/\(p.rows.map V.ref)[i]?=some (.ref q)/\H q=some (.lst (r.map V.int))/\(r.map V.int)[t]?=some (.int (s.pf i t)):=by
 have hpl:=pv.rl
 have olp:=ok.lp
 have h1:i < p.rows.length:=by omega
 have h2:i < s.P.length:=by omega
 have e1:=List.getElem?_eq_getElem h1
 have e2:=List.getElem?_eq_getElem h2
 have lr:=ok.row _ (List.getElem_mem h2)
 refine⟨p.rows[i],s.P[i],pv.hp,by rw [List.getElem?_map,e1];rfl,pv.row i _ _ e1 e2,?_⟩
 have h3:t < s.P[i].length:=by omega
 rw [List.getElem?_map,List.getElem?_eq_getElem h3]
 unfold Ps.pf
 rw [aq [] e2,aq 0 (List.getElem?_eq_getElem h3)]
 rfl
def de (s:Ps) (v:Nat):List Nat:=if s.ws.length≤v then (List.range s.ws.length).filter fun i=>decide (0 < s.pf i (v - s.ws.length)) else ((List.range ((s.ws.getD v cC).2.1+1 - (s.ws.getD v cC).1)).filter fun k=>decide (s.pf v ((s.ws.getD v cC).1+k) < s.M)).map fun k=>s.ws.length+((s.ws.getD v cC).1+k)
def ge (K:PySem.W.Frag) (C:Addr):Sp:=fun vs H Q _=>∃ (p:fZ) (s:Ps) (v:Nat),vs=[.ref p.a,.int (v:Nat)]/\d7 K C H p s/\dg s/\v < s.ws.length+24/\∀ (l:Addr) (H':Hp),az H H'->H l=none->H' l=some (.lst (av (de s v)))->Q (.ref l) H'
theorem eC:∀ {n:Nat} {l:List Nat},l.Nodup->(∀ j∈l,j < n)->l.length≤n
 | 0,l,_,h=>by
  cases l with
  | nil=>exact Nat.le_refl _
  | cons a r=>exact absurd (h a List.mem_cons_self) (by omega)
 | n+1,l,nd,h=>by
  have a:=eC (n:=n) (l:=l.erase n) (nd.sublist List.erase_sublist) fun j hj=>by
   obtain⟨h1,h2⟩:=(List.Nodup.mem_erase_iff nd).mp hj
   have:=h j h2
   omega
  have b:=List.length_erase (a:=n) (l:=l)
  split at b <;> omega
abbrev Sl:=List (Nat×Option Nat)
def oV (o:Option Nat):V:=o.elim V.non fun u=>V.int (u:Nat)
def bL (sl:Sl):List (bR×V):=sl.map fun x=>(Sum.inl (x.1:Int),oV x.2)
structure gQ (s:Ps) (ns:List Nat) (sl:Sl):Prop where
 nd:(sl.map (·.1)).Nodup
 lt:∀ x∈sl,x.1 < s.ws.length+24
 st:∀ v∈ns,v∈sl.map (·.1)
 src:∀ (i v u:Nat),sl[i]?=some (v,some u)->v∈de s u/\∃ j,j < i/\∃ o,sl[j]?=some (u,o)
 root:∀ v,(v,none)∈sl->v∈ns
def AA (s:Ps) (sl:Sl) (p:Nat):Prop:=∀ (i v:Nat) (o:Option Nat),i < p->sl[i]?=some (v,o)->∀ u∈de s v,u∈sl.map (·.1)
theorem xJ {sl:Sl} {v:Nat}:(cY (bL sl) (Sum.inl (v:Int))).isSome=decide (v∈sl.map (·.1)):=by
 induction sl with
 | nil=>rfl
 | cons x r ih=>
  by_cases c:x.1=v
  ·rw [show bL (x :: r)=(Sum.inl (x.1:Int),oV x.2) :: bL r from rfl,cT (by rw [c]),decide_eq_true (by rw [List.map_cons];exact List.mem_cons.mpr (.inl c.symm))]
   rfl
  ·rw [show bL (x :: r)=(Sum.inl (x.1:Int),oV x.2) :: bL r from rfl,cU (fun z=>c (by have:(Sum.inl (x.1:Int):bR)=Sum.inl (v:Int):=z;injection this with this;omega)),ih]
   exact decide_eq_decide.mpr (by rw [List.map_cons,List.mem_cons];exact⟨.inr,fun z=>z.resolve_left fun q=>c q.symm⟩)
theorem Bo {sl:Sl} {v:Nat} {o:Option Nat} (h:v∉sl.map (·.1)):db (bL sl) (Sum.inl (v:Int)) (oV o)=bL (sl++[(v,o)]):=by
 have n:cY (bL sl) (Sum.inl (v:Int))=none:=by
  have:=xJ (sl:=sl) (v:=v)
  rw [decide_eq_false h] at this
  cases e:cY (bL sl) (Sum.inl (v:Int)) with
  | none=>rfl
  | some x=>rw [e] at this;cases this
 rw [lR _ n]
 unfold bL
 rw [List.map_append]
 rfl
theorem iN {s:Ps} {ns:List Nat} {sl:Sl} (h:gQ s ns sl):sl.length≤s.ws.length+24:=by
 have:=eC (n:=s.ws.length+24) h.nd fun j hj=>by
  obtain⟨x,hx,rfl⟩:=List.mem_map.mp hj
  exact h.lt x hx
 rw [List.length_map] at this
 exact this
theorem gQ.more {s:Ps} {ns:List Nat} {sl:Sl} (h:gQ s ns sl) {v u j:Nat} {o:Option Nat} (hv:v < s.ws.length+24) (nv:v∉sl.map (·.1)) (e:v∈de s u) (hj:sl[j]?=some (u,o)):gQ s ns (sl++[(v,some u)]):=by
 refine⟨?_,fun x hx=>?_,fun w hw=>?_,fun i w x hi=>?_,fun w hw=>?_⟩
 ·rw [List.map_append,List.nodup_append]
  exact⟨h.nd,List.nodup_cons.mpr ⟨by simp,List.nodup_nil⟩,fun a ha b hb z=>nv (by
   have hb':b=v:=by simpa using hb
   rw [← hb',← z]
   exact ha)⟩
 ·rcases List.mem_append.mp hx with z | z
  ·exact h.lt x z
  ·rw [List.mem_singleton.mp z];exact hv
 ·rw [List.map_append]
  exact List.mem_append_left _ (h.st w hw)
 ·by_cases c:i < sl.length
  ·rw [List.getElem?_append_left c] at hi
   obtain⟨a,k,hk,o',ek⟩:=h.src i w x hi
   exact⟨a,k,hk,o',by rw [List.getElem?_append_left (by omega)];exact ek⟩
  ·rw [List.getElem?_append_right (by omega)] at hi
   have hl:=(List.getElem?_eq_some_iff.mp hi).1
   rw [List.length_singleton] at hl
   have e0:i - sl.length=0:=by omega
   rw [e0] at hi
   have e1:(v,some u)=(w,some x):=by simpa using hi
   injection e1 with e1 e2
   injection e2 with e2
   subst e1 e2
   have jl:=(List.getElem?_eq_some_iff.mp hj).1
   exact⟨e,j,by omega,o,by rw [List.getElem?_append_left jl];exact hj⟩
 ·rcases List.mem_append.mp hw with z | z
  ·exact h.root w z
  ·have:(w,(none:Option Nat))=(v,some u):=List.mem_singleton.mp z
   injection this with _ q
   cases q
theorem pG {s:Ps} {ns:List Nat} (nd:ns.Nodup) (lt:∀ v∈ns,v < s.ws.length):gQ s ns (ns.map fun v=>(v,none)):=by
 have e:(ns.map fun v=>((v,none):Nat×Option Nat)).map (·.1)=ns:=by rw [List.map_map];exact List.map_id _
 refine⟨by rw [e];exact nd,fun x hx=>?_,fun v hv=>by rw [e];exact hv,fun i v u hi=>?_,fun v hv=>?_⟩
 ·obtain⟨v,hv,rfl⟩:=List.mem_map.mp hx
  have:=lt v hv
  show v < _
  omega
 ·rw [List.getElem?_map] at hi
  obtain⟨w,_,q⟩:=Option.map_eq_some_iff.mp hi
  injection q with _ q
  cases q
 ·obtain⟨w,hw,q⟩:=List.mem_map.mp hv
  injection q with q _
  rw [← q];exact hw
theorem Ag {s:Ps} (ok:dg s) {v u:Nat} (hv:v < s.ws.length+24) (h:u∈de s v):u < s.ws.length+24:=by
 unfold de at h
 split at h
 ·have:=List.mem_range.mp (List.mem_filter.mp h).1
  omega
 ·rename_i c
  obtain⟨k,hk,rfl⟩:=List.mem_map.mp h
  have hk':=List.mem_range.mp (List.mem_filter.mp hk).1
  have hl:v < s.ws.length:=by omega
  have:=ok.wk (s.ws.getD v cC) (by rw [aq cC (List.getElem?_eq_getElem hl)];exact List.getElem_mem hl)
  omega
def fS (K:PySem.W.Frag) (C:Addr):Sp:=fun vs H Q _=>∃ (p:fZ) (s:Ps) (a:Addr) (ns:List Nat),vs=[.ref p.a,.ref a]/\d7 K C H p s/\dg s/\aF K H a (av ns)/\ns.Nodup/\(∀ v∈ns,v < s.ws.length)/\∀ (d:Addr) (sl:Sl) (H':Hp),az H H'->H d=none->gQ s ns sl->AA s sl sl.length->H' d=some (.dK (bL sl))->Q (.ref d) H'
theorem fq {w:Wk} {t:Nat}:fL w t=true↔w.1≤t/\t≤w.2.1:=by
 unfold fL
 rw [Bool.and_eq_true,decide_eq_true_iff,decide_eq_true_iff]
theorem fe {s:Ps} (ok:dg s) {v u:Nat} (hv:v < s.ws.length):u∈de s v↔∃ t,t < 24/\u=s.ws.length+t/\fL (s.ws.getD v cC) t=true/\s.pf v t < s.M:=by
 have hw:=ok.wk (s.ws.getD v cC) (by rw [aq cC (List.getElem?_eq_getElem hv)];exact List.getElem_mem hv)
 unfold de
 rw [if_neg (by omega),List.mem_map]
 constructor
 ·rintro⟨k,hk,rfl⟩
  obtain⟨h1,h2⟩:=List.mem_filter.mp hk
  have h1:=List.mem_range.mp h1
  exact⟨_,by omega,rfl,fq.mpr ⟨by omega,by omega⟩,of_decide_eq_true h2⟩
 ·rintro⟨t,ht,rfl,h1,h2⟩
  obtain⟨a,b⟩:=fq.mp h1
  have e:(s.ws.getD v cC).1+(t - (s.ws.getD v cC).1)=t:=by omega
  exact⟨t - (s.ws.getD v cC).1,List.mem_filter.mpr ⟨List.mem_range.mpr (by omega),decide_eq_true (by rw [e];exact h2)⟩,by rw [e]⟩
theorem gC {s:Ps} {t u:Nat}:u∈de s (s.ws.length+t)↔u < s.ws.length/\0 < s.pf u t:=by
 unfold de
 rw [if_pos (by omega),List.mem_filter,List.mem_range,decide_eq_true_iff,show s.ws.length+t - s.ws.length=t by omega]
theorem vc {s:Ps} (ok:dg s) {q:Nat->Prop} {v u:Nat} (r:fD s.net s.pf q v) (h:u∈de s v):fD s.net s.pf q u:=by
 have vl:=r.node
 change v < s.ws.length+24 at vl
 by_cases c:v < s.ws.length
 ·obtain⟨t,ht,rfl,h1,h2⟩:=(fe ok c).mp h
  exact .fw r c ht h1 h2
 ·obtain⟨t,rfl⟩:∃ t,v=s.ws.length+t:=⟨v - s.ws.length,by omega⟩
  obtain⟨h1,h2⟩:=gC.mp h
  exact .bw r (by omega) h1 h2
theorem oA {s:Ps} (ok:dg s) {ns:List Nat} {sl:Sl} (S:gQ s ns sl) (C:AA s sl sl.length) (lt:∀ v∈ns,v < s.ws.length) {v:Nat}:v∈sl.map (·.1)↔fD s.net s.pf (fun i=>i∈ns) v:=by
 constructor
 ·intro h
  obtain⟨x,hx,rfl⟩:=List.mem_map.mp h
  obtain⟨i,hi,rfl⟩:=List.mem_iff_getElem.mp hx
  have key:∀ k i (hi:i < sl.length),i < k->fD s.net s.pf (fun i=>i∈ns) sl[i].1:=fun k=>by
   induction k with
   | zero=>intro i _ z;omega
   | succ k ih=>
    intro i hi z
    rcases he:sl[i] with ⟨w,o⟩
    show fD s.net s.pf _ w
    cases o with
    | none=>
     have m:=S.root w (by rw [← he];exact List.getElem_mem hi)
     exact .st (lt w m) m
    | some u=>
     obtain⟨b,j,hj,o',ej⟩:=S.src i w u (by rw [List.getElem?_eq_getElem hi,he])
     obtain⟨jl,ej⟩:=List.getElem?_eq_some_iff.mp ej
     have r:=ih j jl (by omega)
     rw [ej] at r
     exact vc ok r b
  exact key (i+1) i hi (by omega)
 ·intro r
  have step:∀ v u,v∈sl.map (·.1)->u∈de s v->u∈sl.map (·.1):=fun v u hv hu=>by
   obtain⟨x,hx,rfl⟩:=List.mem_map.mp hv
   obtain⟨i,hi,rfl⟩:=List.mem_iff_getElem.mp hx
   exact C i _ _ hi (List.getElem?_eq_getElem hi) u hu
  induction r with
  | st hi h=>exact S.st _ h
  | fw r hi ht w p ih=>exact step _ _ ih ((fe ok hi).mpr ⟨_,ht,rfl,w,p⟩)
  | bw r ht hi p ih=>exact step _ _ ih (gC.mpr ⟨hi,p⟩)
def fP (n:Nat) (sl:Sl):List Nat:=((List.range sl.length).filter fun i=>decide (n≤(sl.getD i (0,none)).1)).map fun i=>(sl.getD i (0,none)).1 - n
theorem kI {n:Nat} {sl:Sl} {t:Nat}:t∈fP n sl↔n+t∈sl.map (·.1):=by
 unfold fP
 rw [List.mem_map]
 constructor
 ·rintro⟨i,hi,rfl⟩
  obtain⟨h1,h2⟩:=List.mem_filter.mp hi
  have hl:=List.mem_range.mp h1
  have h3:=of_decide_eq_true h2
  rw [aq _ (List.getElem?_eq_getElem hl)] at h3 ⊢
  rw [show n+(sl[i].1 - n)=sl[i].1 by omega]
  exact List.mem_map.mpr ⟨sl[i],List.getElem_mem hl,rfl⟩
 ·intro h
  obtain⟨x,hx,e⟩:=List.mem_map.mp h
  obtain⟨i,hi,rfl⟩:=List.mem_iff_getElem.mp hx
  have g:sl.getD i (0,none)=sl[i]:=aq _ (List.getElem?_eq_getElem hi)
  exact⟨i,List.mem_filter.mpr ⟨List.mem_range.mpr hi,decide_eq_true (by rw [g];omega)⟩,by rw [g];omega⟩
def fI (K:PySem.W.Frag) (C:Addr):Sp:=fun vs H Q _=>∃ (p:fZ) (s:Ps) (d:Addr) (sl:Sl),vs=[.ref p.a,.ref d]/\d7 K C H p s/\dg s/\H d=some (.dK (bL sl))/\sl.length≤60/\∀ (l:Addr) (ob:Obj) (H':Hp),(∀ b o,b≠d->H b=some o->H' b=some o)->H' d=some (.frz ob (.dK (bL sl)))->H l=none->H' l=some (.lst (av (fP s.ws.length sl)))->Q (.ref l) H'
theorem z7 {sl:Sl} {i:Nat} {k:bR} {v:V} (h:(bL sl)[i]?=some (k,v)):∃ x,sl[i]?=some x/\k=Sum.inl (x.1:Int)/\v=oV x.2:=by
 unfold bL at h
 rw [List.getElem?_map] at h
 obtain⟨x,hx,q⟩:=Option.map_eq_some_iff.mp h
 injection q with q1 q2
 exact⟨x,hx,q1.symm,q2.symm⟩
structure pk (s:Ps):Prop where
 ok:dg s
 fl:ik s.net s.pf
 rr:∀ i,i < s.ws.length->s.R.getD i 0=s.net.rest s.pf i
 oo:∀ t,t < 24->s.O.getD t 0=s.net.room s.pf t
 am:∀ i,i < s.ws.length->0 < s.A.getD i 0
theorem cw {l:List Int} {i:Nat} (h:i < l.length):(l.map V.int)[i]?=some (.int (l.getD i 0)):=by
 rw [List.getElem?_map,List.getElem?_eq_getElem h,aq 0 (List.getElem?_eq_getElem h)]
 rfl
theorem qB {s:Ps} {ns:List Nat} {sl:Sl} (S:gQ s ns sl) {t:Nat} (h:t∈fP s.ws.length sl):t < 24:=by
 obtain⟨x,hx,e⟩:=List.mem_map.mp (kI.mp h)
 have:=S.lt x hx
 omega
theorem AM {s:Ps} (F:pk s) {v:Nat} (hv:v < s.ws.length) {sl:Sl} (S:gQ s [v] sl) (C:AA s sl sl.length):((fP s.ws.length sl).map fun t=>decide (0 < s.O.getD t 0)).any id=!uR s.net s.pf v:=by
 have iff:∀ t,t < 24->(t∈fP s.ws.length sl↔fD s.net s.pf (fun k=>k=v) (s.ws.length+t)):=fun t _=>by
  rw [kI,oA F.ok S C (fun w hw=>by rw [List.mem_singleton.mp hw];exact hv)]
  have e:(fun i=>i∈[v])=fun k=>k=v:=funext fun k=>propext List.mem_singleton
  rw [e]
 cases h:uR s.net s.pf v with
 | true=>
  unfold uR at h
  have h':=fJ.mp h
  show _=false
  rw [List.any_eq_false]
  intro x hx
  obtain⟨t,ht,rfl⟩:=List.mem_map.mp hx
  have tl:=qB S ht
  have z:=h' t tl ((iff t tl).mp ht)
  rw [← F.oo t tl] at z
  rw [z]
  decide
 | false=>
  show _=true
  apply Classical.byContradiction
  intro no
  have:uR s.net s.pf v=true:=by
   unfold uR
   refine fJ.mpr fun t tl r=>?_
   have m:=(iff t tl).mpr r
   have nn:=F.fl.rm t tl
   rw [← F.oo t tl] at nn ⊢
   apply Classical.byContradiction
   intro nz
   exact no (List.any_eq_true.mpr ⟨_,List.mem_map.mpr ⟨t,m,rfl⟩,decide_eq_true (by omega)⟩)
  rw [h] at this
  cases this
def eM (K:PySem.W.Frag) (C:Addr):Sp:=fun vs H Q _=>∃ (p:fZ) (s:Ps) (v:Nat),vs=[.ref p.a,.int (v:Nat)]/\d7 K C H p s/\pk s/\v < s.ws.length/\∀ H',az H H'->Q (.bl (!uR s.net s.pf v)) H'
def tQ (s:Ps) (u v:Nat):Int:=if u < s.ws.length then s.M - s.pf u (v - s.ws.length) else s.pf v (u - s.ws.length)
def Au (s:Ps) (u v:Nat):Prop:=(u < s.ws.length/\s.ws.length≤v/\v < s.ws.length+24)∨(s.ws.length≤u/\u < s.ws.length+24/\v < s.ws.length)
def dQ (K:PySem.W.Frag) (C:Addr):Sp:=fun vs H Q _=>∃ (p:fZ) (s:Ps) (u v:Nat),vs=[.ref p.a,.int (u:Nat),.int (v:Nat)]/\d7 K C H p s/\dg s/\Au s u v/\Q (.int (tQ s u v)) H
def h7 (P:List (List Int)) (i t:Nat) (x:Int):List (List Int):=P.set i ((P.getD i []).set t x)
def Ps.mv (s:Ps) (u v:Nat) (a:Int):Ps:=if u < s.ws.length then { s with P:=h7 s.P u (v - s.ws.length) (s.pf u (v - s.ws.length)+a) } else { s with P:=h7 s.P v (u - s.ws.length) (s.pf v (u - s.ws.length) - a) }
def jj (p:fZ) (H H':Hp):Prop:=∀ b o,b∉p.l->H b=some o->H' b=some o
theorem jj.of {p:fZ} {H H':Hp} (z:az H H'):jj p H H':=fun b o _ h=>z b o h
theorem jj.trans {p:fZ} {H H1 H2:Hp} (a:jj p H H1) (b:jj p H1 H2):jj p H H2:=fun c o n h=>b c o n (a c o n h)
theorem fZ.row_mem {p:fZ} {i:Nat} {q:Addr} (h:p.rows[i]?=some q):q∈p.l:=List.mem_append_right _ (List.mem_of_getElem? h)
theorem jj.up {p:fZ} {H:Hp} {q:Addr} (h:q∈p.l) (o:HO):jj p H (ax H q o):=fun b o' n e=>by
 have nb:b≠q:=fun z=>n (by rw [z];exact h)
 rw [aj nb]
 exact e
section
variable {K:PySem.W.Frag} {C:Addr} {H:Hp} {p:fZ} {s:Ps}
theorem d7.kind (pv:d7 K C H p s) {b:Addr} (h:b∈p.l):(∃ dx fs,H b=some (.ins C dx fs))∨∃ xs,H b=some (.lst xs):=by
 obtain⟨dx,e⟩:=pv.ins
 have h':b=p.a∨b=p.lw∨b=p.lr∨b=p.lo∨b=p.lp∨b∈p.rows:=by
  unfold fZ.l at h
  simpa [or_assoc] using h
 rcases h' with rfl | rfl | rfl | rfl | rfl | h
 ·exact .inl ⟨_,_,e⟩
 ·exact .inr ⟨_,pv.hw⟩
 ·exact .inr ⟨_,pv.hr⟩
 ·exact .inr ⟨_,pv.ho⟩
 ·exact .inr ⟨_,pv.hp⟩
 ·obtain⟨i,hi,rfl⟩:=List.mem_iff_getElem.mp h
  have:=pv.rl
  exact .inr ⟨_,pv.row i _ _ (List.getElem?_eq_getElem hi) (List.getElem?_eq_getElem (by omega))⟩
theorem d7.nds (pv:d7 K C H p s):p.a≠p.lw/\p.a≠p.lr/\p.a≠p.lo/\p.a≠p.lp/\p.lw≠p.lr/\p.lw≠p.lo/\p.lw≠p.lp/\p.lr≠p.lo/\p.lr≠p.lp/\p.lo≠p.lp/\(∀ q∈p.rows,q≠p.a/\q≠p.lw/\q≠p.lr/\q≠p.lo/\q≠p.lp)/\p.rows.Nodup:=by
 have h:=pv.nd
 unfold fZ.l at h
 simp only [List.cons_append,List.nil_append,List.nodup_cons,List.mem_cons,not_or] at h
 obtain⟨⟨a1,a2,a3,a4,a5⟩,⟨b1,b2,b3,b4⟩,⟨c1,c2,c3⟩,⟨d1,d2⟩,e1,f⟩:=h
 exact⟨a1,a2,a3,a4,b1,b2,b3,c1,c2,d1,fun q hq=>⟨fun z=>a5 (z ▸ hq),fun z=>b4 (z ▸ hq),fun z=>c3 (z ▸ hq),fun z=>d2 (z ▸ hq),fun z=>e1 (z ▸ hq)⟩,f⟩
theorem d7.up (pv:d7 K C H p s) {q:Addr} {xs:List V} (m:q∈p.l) (e:H q=some (.lst xs)) (ys:List V) (R' O':List Int) (P':List (List Int)) (rl:P'.length=s.P.length)
  (hr:ax H q (.lst ys) p.lr=some (.lst (R'.map V.int))) (ho:ax H q (.lst ys) p.lo=some (.lst (O'.map V.int))) (hw:ax H q (.lst ys) p.lw=some (.lst (s.A.map V.int))) (hp:ax H q (.lst ys) p.lp=some (.lst (p.rows.map V.ref)))
  (row:∀ (i:Nat) (b:Addr) (r:List Int),p.rows[i]?=some b->P'[i]?=some r->ax H q (.lst ys) b=some (.lst (r.map V.int))):d7 K C (ax H q (.lst ys)) p { s with R:=R',O:=O',P:=P' }:=by
 obtain⟨dx,i⟩:=pv.ins
 obtain⟨xw,x1,x2⟩:=pv.hi
 have na:p.a≠q:=fun z=>by rw [z,e] at i;cases i
 have nl:p.li≠q:=fun z=>pv.nl (z ▸ m)
 have t:=be.up (K:=K) e ys
 refine⟨⟨dx,by rw [aj na];exact i⟩,⟨xw,?_,x2.mono fun _ _ z=>z.mono t⟩,hw,hr,ho,hp,pv.rl.trans rl.symm,row,pv.nd,pv.nl⟩
 rcases x1 with (g | ⟨o,g⟩) | g
 ·exact .inl (.inl (by rw [aj nl];exact g))
 ·exact .inl (.inr ⟨o,by rw [aj nl];exact g⟩)
 ·exact .inr g
theorem d7.setR (pv:d7 K C H p s) (R':List Int):d7 K C (ax H p.lr (.lst (R'.map V.int))) p { s with R:=R' }/\jj p H (ax H p.lr (.lst (R'.map V.int))):=by
 obtain⟨n1,n2,n3,n4,n5,n6,n7,n8,n9,n10,nr,_⟩:=pv.nds
 have m:p.lr∈p.l:=by simp [fZ.l]
 refine⟨pv.up m pv.hr _ R' s.O s.P rfl ae (by rw [aj n8.symm];exact pv.ho) (by rw [aj n5];exact pv.hw) (by rw [aj n9.symm];exact pv.hp) (fun i b r h1 h2=>?_),jj.up m _⟩
 rw [aj (nr b (List.mem_of_getElem? h1)).2.2.1]
 exact pv.row i b r h1 h2
theorem d7.setO (pv:d7 K C H p s) (O':List Int):d7 K C (ax H p.lo (.lst (O'.map V.int))) p { s with O:=O' }/\jj p H (ax H p.lo (.lst (O'.map V.int))):=by
 obtain⟨n1,n2,n3,n4,n5,n6,n7,n8,n9,n10,nr,_⟩:=pv.nds
 have m:p.lo∈p.l:=by simp [fZ.l]
 refine⟨pv.up m pv.ho _ s.R O' s.P rfl (by rw [aj n8];exact pv.hr) ae (by rw [aj n6];exact pv.hw) (by rw [aj n10.symm];exact pv.hp) (fun i b r h1 h2=>?_),jj.up m _⟩
 rw [aj (nr b (List.mem_of_getElem? h1)).2.2.2.1]
 exact pv.row i b r h1 h2
theorem d7.setRow (pv:d7 K C H p s) {j:Nat} {q:Addr} (hq:p.rows[j]?=some q) (r':List Int):d7 K C (ax H q (.lst (r'.map V.int))) p { s with P:=s.P.set j r' }/\jj p H (ax H q (.lst (r'.map V.int))):=by
 obtain⟨n1,n2,n3,n4,n5,n6,n7,n8,n9,n10,nr,nd⟩:=pv.nds
 have m:=fZ.row_mem hq
 have hj:=(List.getElem?_eq_some_iff.mp hq).1
 obtain⟨m1,m2,m3,m4,m5⟩:=nr q (List.mem_of_getElem? hq)
 have rl:=pv.rl
 have e:=pv.row j q _ hq (List.getElem?_eq_getElem (by omega))
 refine⟨pv.up m e _ s.R s.O (s.P.set j r') (List.length_set ..) (by rw [aj m3.symm];exact pv.hr) (by rw [aj m4.symm];exact pv.ho) (by rw [aj m2.symm];exact pv.hw) (by rw [aj m5.symm];exact pv.hp) (fun i b r h1 h2=>?_),jj.up m _⟩
 by_cases c:i=j
 ·subst c
  rw [hq] at h1
  cases h1
  rw [List.getElem?_set_self (by omega)] at h2
  cases h2
  exact ae
 ·rw [List.getElem?_set_ne (Ne.symm c)] at h2
  have nb:b≠q:=fun z=>by
   obtain⟨k1,e1⟩:=List.getElem?_eq_some_iff.mp h1
   obtain⟨k2,e2⟩:=List.getElem?_eq_some_iff.mp hq
   exact c ((List.getElem_inj nd).mp (e1.trans (z.trans e2.symm)))
  rw [aj nb]
  exact pv.row i b r h1 h2
end
def hX (K:PySem.W.Frag) (C:Addr):Sp:=fun vs H Q _=>∃ (p:fZ) (s:Ps) (u v:Nat) (a:Int),vs=[.ref p.a,.int (u:Nat),.int (v:Nat),.int a]/\d7 K C H p s/\dg s/\Au s u v/\∀ H',jj p H H'->d7 K C H' p (s.mv u v a)->Q .non H'
theorem ki {f:Nat->Int} {m:Nat} {d:Int}:∀ {n:Nat},sm (fun i=>f i+if i=m then d else 0) n=sm f n+if m < n then d else 0
 | 0=>by show (0:Int)=0+_;rw [if_neg (by omega)];rfl
 | n+1=>by
  show sm _ n+(f n+if n=m then d else 0)=sm f n+f n+_
  rw [ki (n:=n)]
  by_cases c:n=m
  ·rw [if_pos c,if_neg (by omega),if_pos (by omega)];omega
  ·rw [if_neg c]
   by_cases c2:m < n
   ·rw [if_pos c2,if_pos (by omega)];omega
   ·rw [if_neg c2,if_neg (by omega)];omega
theorem vI {P:List (List Int)} {i t i' t':Nat} {x:Int} (hi:i < P.length) (ht:t < (P.getD i []).length):((h7 P i t x).getD i' []).getD t' 0=if i'=i/\t'=t then x else (P.getD i' []).getD t' 0:=by
 unfold h7
 by_cases c:i'=i
 ·subst c
  have e:(P.set i' ((P.getD i' []).set t x)).getD i' []=(P.getD i' []).set t x:=aq [] (List.getElem?_set_self hi)
  rw [e]
  by_cases c2:t'=t
  ·subst c2
   rw [if_pos ⟨rfl,rfl⟩]
   exact aq 0 (List.getElem?_set_self ht)
  ·rw [if_neg (fun z=>c2 z.2),List.getD_eq_getElem?_getD,List.getElem?_set_ne (Ne.symm c2),← List.getD_eq_getElem?_getD]
 ·rw [if_neg (fun z=>c z.1),List.getD_eq_getElem?_getD (l:=P.set _ _),List.getElem?_set_ne (Ne.symm c),← List.getD_eq_getElem?_getD]
theorem qU {P:List (List Int)} {i t:Nat} {x:Int}:(h7 P i t x).length=P.length:=List.length_set ..
theorem qT {P:List (List Int)} {i t:Nat} {x:Int} (h:∀ r∈P,r.length=24) (hi:i < P.length):∀ r∈h7 P i t x,r.length=24:=fun r hr=>by
 rcases List.mem_or_eq_of_mem_set hr with z | z
 ·exact h r z
 ·rw [z,List.length_set,aq [] (List.getElem?_eq_getElem hi)]
  exact h _ (List.getElem_mem hi)
structure nZ (s s':Ps):Prop where
 ws:s'.ws=s.ws
 fr:s'.fr=s.fr
 M:s'.M=s.M
 A:s'.A=s.A
theorem nZ.refl (s:Ps):nZ s s:=⟨rfl,rfl,rfl,rfl⟩
theorem nZ.trans {a b c:Ps} (x:nZ a b) (y:nZ b c):nZ a c:=⟨y.ws.trans x.ws,y.fr.trans x.fr,y.M.trans x.M,y.A.trans x.A⟩
theorem nZ.net {s s':Ps} (x:nZ s s'):s'.net=s.net:=by unfold Ps.net;rw [x.ws,x.fr,x.M,x.A]
theorem BL {s:Ps} (ok:dg s) {u v:Nat} (a:Int) (e:Au s u v):∃ (i t:Nat) (d:Int),i < s.ws.length/\t < 24/\((u=i/\v=s.ws.length+t/\d=a)∨(u=s.ws.length+t/\v=i/\d=-a))∧
  (∀ i' t',(s.mv u v a).pf i' t'=s.pf i' t'+if i'=i/\t'=t then d else 0)/\dg (s.mv u v a)/\nZ s (s.mv u v a)/\(s.mv u v a).R=s.R/\(s.mv u v a).O=s.O:=by
 have lp:=ok.lp
 have key:∀ (i t:Nat) (d:Int),i < s.ws.length->t < 24->(∀ i' t',((h7 s.P i t (s.pf i t+d)).getD i' []).getD t' 0=s.pf i' t'+if i'=i/\t'=t then d else 0)/\dg { s with P:=h7 s.P i t (s.pf i t+d) }:=fun i t d hi ht=>by
  have hl:i < s.P.length:=by omega
  have h24:(s.P.getD i []).length=24:=by rw [aq [] (List.getElem?_eq_getElem hl)];exact ok.row _ (List.getElem_mem hl)
  refine⟨fun i' t'=>?_,⟨ok.n20,ok.f24,ok.wk,ok.la,ok.lr,ok.lo,qU.trans ok.lp,qT ok.row hl⟩⟩
  rw [vI hl (by omega)]
  by_cases c:i'=i/\t'=t
  ·rw [if_pos c,if_pos c,c.1,c.2]
  ·rw [if_neg c,if_neg c,Int.add_zero]
   rfl
 rcases e with ⟨h1,h2,h3⟩ | ⟨h1,h2,h3⟩
 ·obtain⟨t,rfl⟩:∃ t,v=s.ws.length+t:=⟨v - s.ws.length,by omega⟩
  obtain⟨k1,k2⟩:=key u t a h1 (by omega)
  have ev:s.mv u (s.ws.length+t) a={ s with P:=h7 s.P u t (s.pf u t+a) }:=by
   unfold Ps.mv
   rw [if_pos h1,show s.ws.length+t - s.ws.length=t by omega]
  rw [ev]
  exact⟨u,t,a,h1,by omega,.inl ⟨rfl,rfl,rfl⟩,k1,k2,⟨rfl,rfl,rfl,rfl⟩,rfl,rfl⟩
 ·obtain⟨t,rfl⟩:∃ t,u=s.ws.length+t:=⟨u - s.ws.length,by omega⟩
  obtain⟨k1,k2⟩:=key v t (-a) h3 (by omega)
  have ev:s.mv (s.ws.length+t) v a={ s with P:=h7 s.P v t (s.pf v t+-a) }:=by
   unfold Ps.mv
   rw [if_neg (by omega),show s.ws.length+t - s.ws.length=t by omega,Int.sub_eq_add_neg]
  rw [ev]
  exact⟨v,t,-a,h3,by omega,.inr ⟨rfl,rfl,rfl⟩,k1,k2,⟨rfl,rfl,rfl,rfl⟩,rfl,rfl⟩
def lc (s:Ps) (way:List Nat) (a:Int):Nat->Ps
 | 0=>s
 | j+1=>(lc s way a j).mv (way.getD (j+1) 0) (way.getD j 0) a
structure uO (s:Ps) (way:List Nat):Prop where
 nd:way.Nodup
 ed:∀ j,j+1 < way.length->way.getD j 0∈de s (way.getD (j+1) 0)
 lt:∀ j,j < way.length->way.getD j 0 < s.ws.length+24
theorem kU {s:Ps} (ok:dg s) {u v:Nat} (hu:u < s.ws.length+24) (h:v∈de s u):Au s u v:=by
 by_cases c:u < s.ws.length
 ·obtain⟨t,ht,rfl,_,_⟩:=(fe ok c).mp h
  exact .inl ⟨c,by omega,by omega⟩
 ·obtain⟨t,rfl⟩:∃ t,u=s.ws.length+t:=⟨u - s.ws.length,by omega⟩
  exact .inr ⟨by omega,hu,(gC.mp h).1⟩
theorem uO.inj {s:Ps} {way:List Nat} (W:uO s way) {i j:Nat} (hi:i < way.length) (hj:j < way.length) (e:way.getD i 0=way.getD j 0):i=j:=by
 rw [aq 0 (List.getElem?_eq_getElem hi),aq 0 (List.getElem?_eq_getElem hj)] at e
 exact (List.getElem_inj W.nd).mp e
def dX (p:Prop) [Decidable p] (a:Int):Int:=if p then a else 0
structure EA (s:Ps) (way:List Nat) (a:Int) (j:Nat) (s':Ps):Prop where
 ok:dg s'
 sm:nZ s s'
 R:s'.R=s.R
 O:s'.O=s.O
 row:∀ i,i < s.ws.length->My.sm (s'.pf i) 24=My.sm (s.pf i) 24+dX (way.getD j 0=i) a - dX (way.getD 0 0=i) a
 col:∀ t,t < 24->My.sm (fun i=>s'.pf i t) s.ws.length=My.sm (fun i=>s.pf i t) s.ws.length+dX (way.getD 0 0=s.ws.length+t) a - dX (way.getD j 0=s.ws.length+t) a
 cell:∀ i t,i < s.ws.length->t < 24->s'.pf i t=s.pf i t∨(∃ k,k < j/\way.getD (k+1) 0=i/\way.getD k 0=s.ws.length+t/\s'.pf i t=s.pf i t+a)∨(∃ k,k < j/\way.getD (k+1) 0=s.ws.length+t/\way.getD k 0=i/\s'.pf i t=s.pf i t - a)
theorem Dd {s:Ps} (ok:dg s) {way:List Nat} (W:uO s way) (a:Int):∀ j,j < way.length->EA s way a j (lc s way a j)
 | 0,_=>⟨ok,.refl s,rfl,rfl,fun i _=>by rw [show lc s way a 0=s from rfl];omega,fun t _=>by rw [show lc s way a 0=s from rfl];omega,fun _ _ _ _=>.inl rfl⟩
 | j+1,hj=>by
  have ih:=Dd ok W a j (by omega)
  have ed:=kU ok (W.lt (j+1) hj) (W.ed j hj)
  have ed':Au (lc s way a j) (way.getD (j+1) 0) (way.getD j 0):=by unfold Au at ed ⊢;rw [ih.sm.ws];exact ed
  obtain⟨i,t,d,hi,ht,cs,pf,ok',sm',R',O'⟩:=BL ih.ok a ed'
  rw [ih.sm.ws] at hi cs
  show EA s way a (j+1) ((lc s way a j).mv (way.getD (j+1) 0) (way.getD j 0) a)
  refine⟨ok',ih.sm.trans sm',R'.trans ih.R,O'.trans ih.O,fun i' hi'=>?_,fun t' ht'=>?_,fun i' t' hi' ht'=>?_⟩
  ·have e:sm (((lc s way a j).mv (way.getD (j+1) 0) (way.getD j 0) a).pf i') 24=sm ((lc s way a j).pf i') 24+dX (way.getD (j+1) 0=i') a - dX (way.getD j 0=i') a:=by
    rw [bB (g:=fun t'=>(lc s way a j).pf i' t'+if t'=t then (if i'=i then d else 0) else 0) fun t' _=>by
     rw [pf i' t']
     congr 1
     by_cases c1:i'=i <;> by_cases c2:t'=t <;> simp [c1,c2]]
    rw [ki,if_pos ht]
    unfold dX
    rcases cs with ⟨c1,c2,c3⟩ | ⟨c1,c2,c3⟩
    ·rw [c1,c2,if_neg (show ¬ s.ws.length+t=i' by omega)]
     by_cases c:i'=i
     ·rw [if_pos c,if_pos c.symm];omega
     ·rw [if_neg c,if_neg (Ne.symm c)];omega
    ·rw [c1,c2,if_neg (show ¬ s.ws.length+t=i' by omega)]
     by_cases c:i'=i
     ·rw [if_pos c,if_pos c.symm];omega
     ·rw [if_neg c,if_neg (Ne.symm c)];omega
   rw [e,ih.row i' hi']
   omega
  ·have e:sm (fun i'=>((lc s way a j).mv (way.getD (j+1) 0) (way.getD j 0) a).pf i' t') s.ws.length=sm (fun i'=>(lc s way a j).pf i' t') s.ws.length+dX (way.getD j 0=s.ws.length+t') a - dX (way.getD (j+1) 0=s.ws.length+t') a:=by
    rw [bB (g:=fun i'=>(lc s way a j).pf i' t'+if i'=i then (if t'=t then d else 0) else 0) fun i' _=>by
     rw [pf i' t']
     congr 1
     by_cases c1:i'=i <;> by_cases c2:t'=t <;> simp [c1,c2]]
    rw [ki,if_pos hi]
    unfold dX
    rcases cs with ⟨c1,c2,c3⟩ | ⟨c1,c2,c3⟩
    ·rw [c1,c2,if_neg (show ¬ i=s.ws.length+t' by omega)]
     by_cases c:t'=t
     ·rw [if_pos c,if_pos (by omega)];omega
     ·rw [if_neg c,if_neg (by omega)];omega
    ·rw [c1,c2,if_neg (show ¬ i=s.ws.length+t' by omega)]
     by_cases c:t'=t
     ·rw [if_pos c,if_pos (by omega)];omega
     ·rw [if_neg c,if_neg (by omega)];omega
   rw [e,ih.col t' ht']
   omega
  ·rw [pf i' t']
   by_cases c:i'=i/\t'=t
   ·obtain⟨rfl,rfl⟩:=c
    rw [if_pos ⟨rfl,rfl⟩]
    have base:(lc s way a j).pf i' t'=s.pf i' t':=by
     rcases ih.cell i' t' hi' ht' with z | ⟨k,hk,z1,z2,_⟩ | ⟨k,hk,z1,z2,_⟩
     ·exact z
     ·exfalso
      rcases cs with ⟨c1,c2,_⟩ | ⟨c1,c2,_⟩
      ·have:=W.inj (i:=k+1) (j:=j+1) (by omega) hj (by omega)
       omega
      ·have:=W.inj (i:=k+1) (j:=j) (by omega) (by omega) (by omega)
       have:=W.inj (i:=k) (j:=j+1) (by omega) hj (by omega)
       omega
     ·exfalso
      rcases cs with ⟨c1,c2,_⟩ | ⟨c1,c2,_⟩
      ·have:=W.inj (i:=k+1) (j:=j) (by omega) (by omega) (by omega)
       have:=W.inj (i:=k) (j:=j+1) (by omega) hj (by omega)
       omega
      ·have:=W.inj (i:=k+1) (j:=j+1) (by omega) hj (by omega)
       omega
    rw [base]
    rcases cs with ⟨c1,c2,c3⟩ | ⟨c1,c2,c3⟩
    ·exact .inr (.inl ⟨j,by omega,c1,c2,by rw [c3]⟩)
    ·exact .inr (.inr ⟨j,by omega,c1,c2,by rw [c3];omega⟩)
   ·rw [if_neg c,Int.add_zero]
    rcases ih.cell i' t' hi' ht' with z | ⟨k,hk,z⟩ | ⟨k,hk,z⟩
    ·exact .inl z
    ·exact .inr (.inl ⟨k,by omega,z⟩)
    ·exact .inr (.inr ⟨k,by omega,z⟩)
theorem i6 {l:List Int} {i j:Nat} {x:Int} (hi:i < l.length):(l.set i x).getD j 0=if j=i then x else l.getD j 0:=by
 by_cases c:j=i
 ·subst c
  rw [if_pos rfl]
  exact aq 0 (List.getElem?_set_self hi)
 ·rw [if_neg c,List.getD_eq_getElem?_getD,List.getElem?_set_ne (Ne.symm c),← List.getD_eq_getElem?_getD]
def Ps.less (s:Ps) (tn la:Nat) (a:Int):Ps:={ s with O:=s.O.set tn (s.O.getD tn 0 - a),R:=s.R.set la (s.R.getD la 0 - a) }
theorem oO {s:Ps} (ok:dg s) (tn la:Nat) (a:Int):dg (s.less tn la a):=⟨ok.n20,ok.f24,ok.wk,ok.la,(List.length_set ..).trans ok.lr,(List.length_set ..).trans ok.lo,ok.lp,ok.row⟩
theorem B7 {s:Ps} (F:pk s) {way:List Nat} (W:uO s way) {tn la:Nat} {a:Int} (l0:0 < way.length) (ht:tn < 24) (h0:way.getD 0 0=s.ws.length+tn) (hla:la < s.ws.length) (hl:way.getD (way.length - 1) 0=la) (a0:0 < a) (ao:a≤s.O.getD tn 0) (ar:a≤s.R.getD la 0)
  (am:∀ j,j+1 < way.length->a≤tQ s (way.getD (j+1) 0) (way.getD j 0)):pk (lc (s.less tn la a) way a (way.length - 1))/\nZ s (lc (s.less tn la a) way a (way.length - 1))/\(lc (s.less tn la a) way a (way.length - 1)).R=s.R.set la (s.R.getD la 0 - a):=by
 have ok:=F.ok
 have W1:uO (s.less tn la a) way:=⟨W.nd,W.ed,W.lt⟩
 have m:=Dd (oO ok tn la a) W1 a (way.length - 1) (by omega)
 generalize lc (s.less tn la a) way a (way.length - 1)=s' at m ⊢
 have sb:nZ s s':=⟨m.sm.ws,m.sm.fr,m.sm.M,m.sm.A⟩
 have nt:=sb.net
 have lo:=ok.lo
 have lr:=ok.lr
 have row:∀ i,i < s.ws.length->s.net.rest s'.pf i=s.net.rest s.pf i - dX (i=la) a:=fun i hi=>by
  have r:=m.row i hi
  rw [hl,h0] at r
  unfold dq.rest
  rw [r]
  show s.A.getD i 0 - (sm (s.pf i) 24+_ - _)=s.A.getD i 0 - sm (s.pf i) 24 - _
  unfold dX
  rw [if_neg (show ¬ s.ws.length+tn=i by omega)]
  by_cases c:i=la
  ·rw [if_pos c,if_pos c.symm];omega
  ·rw [if_neg c,if_neg (Ne.symm c)];omega
 have col:∀ t,t < 24->s.net.room s'.pf t=s.net.room s.pf t - dX (t=tn) a:=fun t h=>by
  have r:=m.col t h
  rw [hl,h0] at r
  unfold dq.room
  show s.M * (s.fr.getD t 0:Nat) - sm (fun i=>s'.pf i t) s.ws.length=s.M * (s.fr.getD t 0:Nat) - sm (fun i=>s.pf i t) s.ws.length - _
  have r':sm (fun i=>s'.pf i t) s.ws.length=sm (fun i=>s.pf i t) s.ws.length+dX (s.ws.length+tn=s.ws.length+t) a - dX (la=s.ws.length+t) a:=r
  rw [r']
  unfold dX
  rw [if_neg (show ¬ la=s.ws.length+t by omega)]
  by_cases c:t=tn
  ·rw [if_pos c,if_pos (by omega)];omega
  ·rw [if_neg c,if_neg (by omega)];omega
 have eR:s'.R=s.R.set la (s.R.getD la 0 - a):=m.R
 have eO:s'.O=s.O.set tn (s.O.getD tn 0 - a):=m.O
 have bnd:∀ i t,i < s.ws.length->t < 24->0≤s'.pf i t/\s'.pf i t≤s.M/\(fL (s.ws.getD i cC) t=false->s'.pf i t=0):=fun i t hi h=>by
  have b0:0≤s.pf i t:=F.fl.lo i t hi h
  have b1:s.pf i t≤s.M:=F.fl.hi i t hi h
  have b2:fL (s.ws.getD i cC) t=false->s.pf i t=0:=F.fl.out i t hi h
  rcases m.cell i t hi h with z | ⟨k,hk,z1,z2,z3⟩ | ⟨k,hk,z1,z2,z3⟩
  ·have z':s'.pf i t=s.pf i t:=z
   rw [z']
   exact⟨b0,b1,b2⟩
  ·have z2':way.getD k 0=s.ws.length+t:=z2
   have z3':s'.pf i t=s.pf i t+a:=z3
   have q:=am k (by omega)
   have e:=W.ed k (by omega)
   rw [z1,z2'] at q e
   unfold tQ at q
   rw [if_pos hi,show s.ws.length+t - s.ws.length=t by omega] at q
   obtain⟨t',_,e1,e2,_⟩:=(fe ok hi).mp e
   obtain rfl:t=t':=by omega
   rw [z3']
   refine⟨by omega,by omega,fun z=>?_⟩
   rw [z] at e2
   cases e2
  ·have z1':way.getD (k+1) 0=s.ws.length+t:=z1
   have z3':s'.pf i t=s.pf i t - a:=z3
   have q:=am k (by omega)
   rw [z1',z2] at q
   unfold tQ at q
   rw [if_neg (by omega),show s.ws.length+t - s.ws.length=t by omega] at q
   rw [z3']
   refine⟨by omega,by omega,fun z=>?_⟩
   have:=b2 z
   omega
 refine⟨⟨m.ok,?_,fun i hi=>?_,fun t h=>?_,fun i hi=>?_⟩,sb,eR⟩
 ·rw [nt]
  refine⟨F.fl.m0,fun i t hi h=>(bnd i t hi h).1,fun i t hi h=>(bnd i t hi h).2.1,fun i t hi h=>(bnd i t hi h).2.2,fun i hi=>?_,fun t h=>?_⟩
  ·rw [row i hi]
   have z:=F.fl.rs i hi
   have rr:=F.rr i hi
   unfold dX
   by_cases c:i=la
   ·subst c
    rw [if_pos rfl];omega
   ·rw [if_neg c];omega
  ·rw [col t h]
   have z:=F.fl.rm t h
   have oo:=F.oo t h
   unfold dX
   by_cases c:t=tn
   ·subst c
    rw [if_pos rfl];omega
   ·rw [if_neg c];omega
 ·rw [sb.ws] at hi
  rw [nt,row i hi,eR,i6 (by omega)]
  have rr:=F.rr i hi
  unfold dX
  by_cases c:i=la
  ·subst c
   rw [if_pos rfl,if_pos rfl];omega
  ·rw [if_neg c,if_neg c];omega
 ·rw [nt,col t h,eO,i6 (by omega)]
  have oo:=F.oo t h
  unfold dX
  by_cases c:t=tn
  ·subst c
   rw [if_pos rfl,if_pos rfl];omega
  ·rw [if_neg c,if_neg c];omega
 ·rw [sb.ws] at hi
  rw [sb.A]
  exact F.am i hi
def Ps.mu (s:Ps):Nat:=(sm (fun i=>s.R.getD i 0) s.ws.length).toNat
theorem vY {s s':Ps} (F:pk s) {la:Nat} {a:Int} (hla:la < s.ws.length) (a0:0 < a) (ar:a≤s.R.getD la 0) (e:s'.R=s.R.set la (s.R.getD la 0 - a)) (w:s'.ws=s.ws):s'.mu < s.mu:=by
 have lr:=F.ok.lr
 unfold Ps.mu
 rw [w,bB (f:=fun i=>s'.R.getD i 0) (g:=fun i=>s.R.getD i 0+if i=la then -a else 0) fun i hi=>by
  rw [e,i6 (by omega)]
  by_cases c:i=la
  ·subst c
   rw [if_pos rfl,if_pos rfl];omega
  ·rw [if_neg c,if_neg c];omega]
 rw [ki,if_pos hla]
 have h:=mS (f:=fun i=>s.R.getD i 0) (n:=s.ws.length) (i:=la) (fun i hi=>by
  have r:=F.rr i hi
  have z:=F.fl.rs i hi
  show 0≤s.R.getD i 0
  omega) hla
 have h':s.R.getD la 0≤sm (fun i=>s.R.getD i 0) s.ws.length:=h
 omega
theorem v4 {way:List Nat} (h:0 < way.length):mC (av way) (-1)=some (.int ((way.getD (way.length - 1) 0:Nat):Int)):=by
 have ne:way≠[]:=fun z=>by rw [z] at h;exact absurd h (by decide)
 have e:=List.dropLast_concat_getLast ne
 have e2:way.getLast ne=way.getD (way.length - 1) 0:=by
  rw [List.getLast_eq_getElem,aq 0 (List.getElem?_eq_getElem (by omega))]
 rw [← e2]
 have e3:av way=av way.dropLast++[V.int ((way.getLast ne:Nat):Int)]:=by
  rw [show av way=av (way.dropLast++[way.getLast ne]) by rw [e]]
  unfold av
  rw [List.map_append]
  rfl
 rw [e3]
 exact uD _ _
theorem j7:∀ {sl:Sl} {m v:Nat} {o:Option Nat},(sl.map (·.1)).Nodup->sl[m]?=some (v,o)->cY (bL sl) (Sum.inl (v:Int))=some (oV o)
 | [],m,v,o,_,h=>nomatch h
 | x :: r,0,v,o,_,h=>by
  have h':some x=some (v,o):=h
  injection h' with h'
  subst h'
  exact cT (p:=((Sum.inl (v:Int):bR),oV o)) rfl
 | x :: r,m+1,v,o,nd,h=>by
  have h':r[m]?=some (v,o):=h
  rw [List.map_cons,List.nodup_cons] at nd
  have ne:x.1≠v:=fun z=>nd.1 (z ▸ List.mem_map.mpr ⟨_,List.mem_of_getElem? h',rfl⟩)
  rw [show bL (x :: r)=(Sum.inl (x.1:Int),oV x.2) :: bL r from rfl,cU (fun z=>ne (by have:(Sum.inl (x.1:Int):bR)=Sum.inl (v:Int):=z;injection this with this;omega))]
  exact j7 nd.2 h'
theorem xR {sl:Sl} (nd:(sl.map (·.1)).Nodup) {i j v:Nat} {o o':Option Nat} (h1:sl[i]?=some (v,o)) (h2:sl[j]?=some (v,o')):i=j:=by
 obtain⟨a,e1⟩:=List.getElem?_eq_some_iff.mp h1
 obtain⟨b,e2⟩:=List.getElem?_eq_some_iff.mp h2
 have:=(List.getElem_inj (i:=i) (j:=j) (h₀:=by rw [List.length_map];exact a) (h₁:=by rw [List.length_map];exact b) nd).mp (by rw [List.getElem_map,List.getElem_map,e1,e2])
 exact this
theorem eY {α:Type} {l:List α} {x d:α} {j:Nat} (h:j < l.length):(l++[x]).getD j d=l.getD j d:=by
 rw [List.getD_eq_getElem?_getD,List.getElem?_append_left h,← List.getD_eq_getElem?_getD]
theorem dH {α:Type} {l:List α} {x d:α}:(l++[x]).getD l.length d=x:=by
 rw [List.getD_eq_getElem?_getD,List.getElem?_append_right (Nat.le_refl _),Nat.sub_self]
 rfl
theorem uO.more {s:Ps} {way:List Nat} (W:uO s way) (l:0 < way.length) {u:Nat} (nu:u∉way) (e:way.getD (way.length - 1) 0∈de s u) (hu:u < s.ws.length+24):uO s (way++[u]):=by
 refine⟨?_,fun j hj=>?_,fun j hj=>?_⟩
 ·rw [List.nodup_append]
  exact⟨W.nd,List.nodup_cons.mpr ⟨(fun z=>nomatch z),List.nodup_nil⟩,fun a ha b hb z=>nu (by
   rw [← List.mem_singleton.mp hb,← z]
   exact ha)⟩
 ·rw [List.length_append,List.length_singleton] at hj
  by_cases c:j+1 < way.length
  ·rw [eY (j:=j) (by omega),eY (j:=j+1) c]
   exact W.ed j c
  ·obtain rfl:j=way.length - 1:=by omega
   rw [eY (j:=way.length - 1) (by omega),show way.length - 1+1=way.length by omega,dH]
   exact e
 ·rw [List.length_append,List.length_singleton] at hj
  by_cases c:j < way.length
  ·rw [eY c]
   exact W.lt j c
  ·obtain rfl:j=way.length:=by omega
   rw [dH]
   exact hu
def wE (s:Ps) (way:List Nat) (tn la n:Nat):List Int:=[s.O.getD tn 0,s.R.getD la 0]++(List.range n).map fun j=>tQ s (way.getD (j+1) 0) (way.getD j 0)
theorem wD (s:Ps) (way:List Nat) (tn la n:Nat):wE s way tn la (n+1)=wE s way tn la n++[tQ s (way.getD (n+1) 0) (way.getD n 0)]:=by
 unfold wE
 rw [List.range_succ,List.map_append,List.append_assoc]
 rfl
theorem zM {s:Ps} (ok:dg s) {u v:Nat} (hu:u < s.ws.length+24) (h:v∈de s u):0 < tQ s u v:=by
 unfold tQ
 by_cases c:u < s.ws.length
 ·obtain⟨t,ht,rfl,_,z⟩:=(fe ok c).mp h
  rw [if_pos c,show s.ws.length+t - s.ws.length=t by omega]
  omega
 ·obtain⟨t,rfl⟩:∃ t,u=s.ws.length+t:=⟨u - s.ws.length,by omega⟩
  rw [if_neg c,show s.ws.length+t - s.ws.length=t by omega]
  exact (gC.mp h).2
def eL (K:PySem.W.Frag) (C:Addr):Sp:=fun vs H Q _=>∃ (p:fZ) (s:Ps) (d:Addr) (ns:List Nat) (sl:Sl) (tn:Nat),vs=[.ref p.a,.ref d,.int (tn:Nat)]/\d7 K C H p s/\pk s/\Rd H d (.dK (bL sl))/\gQ s ns sl/\(∀ v∈ns,v < s.ws.length/\0 < s.R.getD v 0)/\s.ws.length+tn∈sl.map (·.1)/\0 < s.O.getD tn 0/\∀ s' H',jj p H H'->d7 K C H' p s'->pk s'->nZ s s'->s'.mu < s.mu->Q .non H'
theorem fD.congr {N:dq} {P:Nat->Nat->Int} {a b:Nat->Prop} (h:∀ i,i < N.n->a i->b i) {v:Nat} (r:fD N P a v):fD N P b v:=by
 induction r with
 | st hi x=>exact .st hi (h _ hi x)
 | fw r hi ht w p ih=>exact .fw ih hi ht w p
 | bw r ht hi p ih=>exact .bw ih ht hi p
def Az (s:Ps):List Nat:=(List.range s.ws.length).filter fun i=>decide (0 < s.R.getD i 0)
theorem gy {s:Ps} {i:Nat}:i∈Az s↔i < s.ws.length/\0 < s.R.getD i 0:=by
 unfold Az
 rw [List.mem_filter,List.mem_range,decide_eq_true_iff]
structure wL (s:Ps) (sl:Sl):Prop where
 F:pk s
 key:∀ v,v∈sl.map (·.1)↔fD s.net s.pf (fun i=>0 < s.net.rest s.pf i) v
 full:∀ t,t < 24->fD s.net s.pf (fun i=>0 < s.net.rest s.pf i) (s.ws.length+t)->s.net.room s.pf t=0
 nd:(sl.map (·.1)).Nodup
theorem vJ {s:Ps} (F:pk s) {sl:Sl} (S:gQ s (Az s) sl) (C:AA s sl sl.length) (no:∀ t∈fP s.ws.length sl,¬ 0 < s.O.getD t 0):wL s sl:=by
 have key:∀ v,v∈sl.map (·.1)↔fD s.net s.pf (fun i=>0 < s.net.rest s.pf i) v:=fun v=>by
  rw [oA F.ok S C fun v hv=>(gy.mp hv).1]
  constructor
  ·exact fD.congr fun i hi h=>by rw [← F.rr i hi];exact (gy.mp h).2
  ·exact fD.congr fun i hi h=>gy.mpr ⟨hi,by rw [F.rr i hi];exact h⟩
 refine⟨F,key,fun t ht r=>?_,S.nd⟩
 have q:=no t (kI.mpr ((key _).mpr r))
 have z:=F.fl.rm t ht
 have o:=F.oo t ht
 omega
def hW (K:PySem.W.Frag) (C:Addr):Sp:=fun vs H Q _=>∃ (p:fZ) (s:Ps),vs=[.ref p.a]/\d7 K C H p s/\pk s/\∀ s' sl d H',jj p H H'->d7 K C H' p s'->nZ s s'->wL s' sl->Rd H' d (.dK (bL sl))->Q (.ref d) H'
def gW (WS:List Wk) (L:List Nat):List Wk:=L.map fun j=>WS.getD j cC
def dA (ws:List Wk):Rat:=(ws.map fun w=>val w.2.2).sum
theorem qM (a b:List Rat):(a++b).sum=a.sum+b.sum:=by
 induction a with
 | nil=>rw [List.nil_append,List.sum_nil];grind
 | cons x r ih=>rw [List.cons_append,List.sum_cons,List.sum_cons,ih];grind
theorem oH {S:Nat->Bool} {f:Nat->Int} {g:Nat->Rat} {c:Rat}:∀ {n:Nat},(∀ i,i < n->(f i:Rat)=c * g i)->((sm (fun i=>iB (S i) (f i)) n:Int):Rat)=c * (((List.range n).filter S).map g).sum
 | 0,_=>by
  show ((0:Int):Rat)=c * 0
  rw [Rat.mul_zero];rfl
 | n+1,h=>by
  have ih:=oH (S:=S) (n:=n) fun i hi=>h i (by omega)
  have e:=h n (by omega)
  show ((sm _ n+iB (S n) (f n):Int):Rat)=_
  rw [Rat.intCast_add,ih,List.range_succ,List.filter_append,List.map_append,qM,Rat.mul_add]
  cases c1:S n with
  | true=>
   rw [List.filter_cons_of_pos c1,List.filter_nil,List.map_cons,List.map_nil,List.sum_cons,List.sum_nil,BS,e]
   grind
  | false=>
   rw [List.filter_cons_of_neg (by rw [c1];exact Bool.false_ne_true),List.filter_nil,List.map_nil,List.sum_nil,uc,Rat.mul_zero]
   rfl
theorem lV {S p:Nat->Bool}:∀ n:Nat,sm (fun i=>iB (S i && p i) 1) n=((((List.range n).filter S).filter p).length:Nat)
 | 0=>rfl
 | n+1=>by
  show sm _ n+iB (S n && p n) 1=_
  rw [lV n,List.range_succ,List.filter_append,List.filter_append,List.length_append]
  cases c1:S n with
  | true=>
   rw [List.filter_cons_of_pos c1,List.filter_nil]
   cases c2:p n with
   | true=>
    rw [List.filter_cons_of_pos c2]
    show _+(1:Int)=((_+1:Nat):Int)
    omega
   | false=>
    rw [List.filter_cons_of_neg (by rw [c2];exact Bool.false_ne_true)]
    show _+(0:Int)=((_+0:Nat):Int)
    omega
  | false=>
   rw [List.filter_cons_of_neg (by rw [c1];exact Bool.false_ne_true)]
   show _+(0:Int)=((_+0:Nat):Int)
   omega
theorem jE (f:Nat->Nat):∀ n:Nat,((((List.range n).map f).sum:Nat):Int)=sm (fun t=>((f t:Nat):Int)) n
 | 0=>rfl
 | n+1=>by
  show _=sm _ n+((f n:Nat):Int)
  rw [List.range_succ,List.map_append,List.sum_append,← jE f n]
  show ((_+(f n+0):Nat):Int)=_
  omega
theorem fM {ws:List Wk} {fr:List Nat} (h:fr.length=24):((bi ws fr:Nat):Int)=sm (fun t=>((min (fr.getD t 0) (bD ws t):Nat):Int)) 24:=by
 unfold bi bX
 rw [jE,h]
theorem uA (ws:List Wk) (S:Nat->Bool) (n t:Nat):((bD (gW ws ((List.range n).filter S)) t:Nat):Int)=sm (fun i=>iB (S i && fL (ws.getD i cC) t) 1) n:=by
 rw [lV (p:=fun i=>fL (ws.getD i cC) t)]
 unfold bD gW
 rw [List.filter_map,List.length_map]
 rfl
section
variable {s:Ps}
theorem zH (ok:dg s) (S:Nat->Bool):s.net.bz S=((bi (gW s.ws ((List.range s.ws.length).filter S)) s.fr:Nat):Int):=by
 rw [fM ok.f24]
 unfold dq.bz
 refine bB fun t _=>?_
 have e:s.net.cnt S t=((bD (gW s.ws ((List.range s.ws.length).filter S)) t:Nat):Int):=(uA ..).symm
 unfold dq.busy
 rw [e]
 show min ((s.fr.getD t 0:Nat):Int) _=_
 omega
structure AE (s:Ps) (r:R) (B:Int):Prop where
 b0:0 < B
 M:(s.M:Rat)=(B:Rat) * val r
 A:∀ i,i < s.ws.length->((s.A.getD i 0:Int):Rat)=(B:Rat) * val (s.ws.getD i cC).2.2
theorem nE {r:R} {B:Int} (L:AE s r B) (S:Nat->Bool):((s.net.am S:Int):Rat)=(B:Rat) * dA (gW s.ws ((List.range s.ws.length).filter S)):=by
 have q:=oH (S:=S) (f:=fun i=>s.A.getD i 0) (g:=fun i=>val (s.ws.getD i cC).2.2) (n:=s.ws.length) L.A
 unfold dA gW
 rw [List.map_map]
 exact q
theorem De {r:R} {B:Int} (ok:dg s) (L:AE s r B) (S:Nat->Bool):((s.M * s.net.bz S:Int):Rat)=(B:Rat) * (val r * ((bi (gW s.ws ((List.range s.ws.length).filter S)) s.fr:Nat):Rat)):=by
 rw [Rat.intCast_mul,zH ok S,L.M,Rat.intCast_natCast]
 grind
theorem io {B:Int} (h:0 < B):(0:Rat) < (B:Rat):=by
 have:=Rat.intCast_lt_intCast.mpr h
 exact this
theorem iV {B x y:Rat} (h:0 < B):B * x < B * y↔x < y:=by
 constructor
 ·intro z
  apply Classical.byContradiction
  intro n
  have:=Rat.mul_le_mul_of_nonneg_left (Rat.not_lt.mp n) (Rat.le_of_lt h)
  grind
 ·intro z
  have:=Rat.mul_lt_mul_of_pos_right z h
  grind
theorem fX {B x y:Rat} (h:0 < B):B * x≤B * y↔x≤y:=by
 constructor
 ·intro z
  apply Classical.byContradiction
  intro n
  have:=(iV h).mpr (Rat.not_le.mp n)
  grind
 ·intro z
  exact Rat.mul_le_mul_of_nonneg_left z (Rat.le_of_lt h)
theorem nF {B x y:Rat} (h:0 < B):B * x=B * y↔x=y:=by
 constructor
 ·intro z
  exact Rat.le_antisymm ((fX h).mp (by rw [z];exact Rat.le_refl)) ((fX h).mp (by rw [z];exact Rat.le_refl))
 ·intro z
  rw [z]
end
structure j3 (WS:List Wk) (ns fr:List Nat) (r:R) (U:Nat->Bool):Prop where
 rd:eQ r
 nn:0≤val r
 atn:∃ S:Nat->Bool,0 < bi (gW WS (ns.filter S)) fr/\dA (gW WS (ns.filter S))=val r * ((bi (gW WS (ns.filter S)) fr:Nat):Rat)
 all:∀ S:Nat->Bool,dA (gW WS (ns.filter S))≤val r * ((bi (gW WS (ns.filter S)) fr:Nat):Rat)
 u:∀ j∈ns,U j=true↔∃ S:Nat->Bool,S j=true/\dA (gW WS (ns.filter S))=val r * ((bi (gW WS (ns.filter S)) fr:Nat):Rat)
section
variable {s:Ps}
theorem EO {r:R} {B:Int} (F:pk s) (L:AE s r B) (rd:eQ r) (nn:0≤val r) (fu:∀ i,i < s.ws.length->s.net.rest s.pf i=0) {S₀:Nat->Bool} (b0:0 < bi (gW s.ws ((List.range s.ws.length).filter S₀)) s.fr) (e0:dA (gW s.ws ((List.range s.ws.length).filter S₀))=val r * ((bi (gW s.ws ((List.range s.ws.length).filter S₀)) s.fr:Nat):Rat)) :
  j3 s.ws (List.range s.ws.length) s.fr r (uR s.net s.pf):=by
 have eqv:∀ S,s.net.am S=s.net.M * s.net.bz S↔dA (gW s.ws ((List.range s.ws.length).filter S))=val r * ((bi (gW s.ws ((List.range s.ws.length).filter S)) s.fr:Nat):Rat):=fun S=>by
  rw [← nF (io L.b0),← nE L,← De F.ok L]
  exact Rat.intCast_inj.symm
 refine⟨rd,nn,⟨S₀,b0,e0⟩,fun S=>?_,fun j hj=>⟨fun h=>⟨uR s.net s.pf,h,(eqv _).mp (uQ F.fl fu)⟩,fun⟨S,h,e⟩=>uS F.fl fu ((eqv S).mpr e) (List.mem_range.mp hj) h⟩⟩
 rw [← fX (io L.b0),← nE L,← De F.ok L]
 exact Rat.intCast_le_intCast.mpr (Ai F.fl fu S)
theorem nA {r:R} {B:Int} {sl:Sl} (E:wL s sl) (L:AE s r B) (ne:sl≠[]):val r * ((bi (gW s.ws ((List.range s.ws.length).filter fun i=>decide (i∈sl.map (·.1)))) s.fr:Nat):Rat) < dA (gW s.ws ((List.range s.ws.length).filter fun i=>decide (i∈sl.map (·.1)))):=by
 obtain⟨i,hi,h⟩:∃ i,i < s.ws.length/\0 < s.net.rest s.pf i:=by
  cases sl with
  | nil=>exact absurd rfl ne
  | cons x t=>
   have rr:=(E.key x.1).mp List.mem_cons_self
   have:∀ v,fD s.net s.pf (fun i=>0 < s.net.rest s.pf i) v->∃ i,i < s.ws.length/\0 < s.net.rest s.pf i:=fun v z=>by
    induction z with
    | st hi h=>exact⟨_,hi,h⟩
    | fw _ _ _ _ _ ih=>exact ih
    | bw _ _ _ _ ih=>exact ih
   exact this _ rr
 have q:=A6 E.F.fl E.full hi h
 have e:(List.range s.ws.length).filter (fun i=>decide (i∈sl.map (·.1)))=(List.range s.ws.length).filter (wR s.net s.pf fun i=>0 < s.net.rest s.pf i):=by
  refine List.filter_congr fun i _=>?_
  unfold wR
  rw [Bool.eq_iff_iff,decide_eq_true_iff,fJ]
  exact E.key i
 rw [e,← iV (io L.b0),← nE L,← De E.F.ok L]
 exact Rat.intCast_lt_intCast.mpr q
theorem pT {sl:Sl} (E:wL s sl) (e:sl=[]):∀ i,i < s.ws.length->s.net.rest s.pf i=0:=fun i hi=>by
 have nn:=E.F.fl.rs i hi
 apply Classical.byContradiction
 intro z
 have:=(E.key i).mpr (.st hi (by omega))
 rw [e] at this
 cases this
end
section
variable {WS:List Wk} {S T:Nat->Bool} {ns fr:List Nat}
theorem fC (j:Nat) (r:List Nat) (S:Nat->Bool):dA (gW WS ((j :: r).filter S))=(if S j=true then val (WS.getD j cC).2.2 else 0)+dA (gW WS (r.filter S)):=by
 cases c:S j with
 | true=>
  rw [List.filter_cons_of_pos c,if_pos rfl]
  exact List.sum_cons
 | false=>
  rw [List.filter_cons_of_neg (by rw [c];exact Bool.false_ne_true),if_neg Bool.false_ne_true]
  grind
theorem gB (j:Nat) (r:List Nat) (S:Nat->Bool) (t:Nat):bD (gW WS ((j :: r).filter S)) t=(if (S j && fL (WS.getD j cC) t)=true then 1 else 0)+bD (gW WS (r.filter S)) t:=by
 cases c:S j with
 | true=>
  rw [List.filter_cons_of_pos c]
  show ((WS.getD j cC :: gW WS (r.filter S)).filter fun w=>fL w t).length=_
  cases d:fL (WS.getD j cC) t with
  | true=>
   rw [List.filter_cons_of_pos (p:=fun w=>fL w t) d,List.length_cons,Bool.and_true,if_pos rfl]
   show bD _ t+1=_
   omega
  | false=>
   rw [List.filter_cons_of_neg (p:=fun w=>fL w t) (by show ¬ fL _ t=true;rw [d];exact Bool.false_ne_true),if_neg (by decide)]
   show bD _ t=_
   omega
 | false=>
  rw [List.filter_cons_of_neg (by rw [c];exact Bool.false_ne_true),Bool.false_and,if_neg Bool.false_ne_true]
  omega
theorem nH (S T:Nat->Bool):∀ ns:List Nat,dA (gW WS (ns.filter fun j=>S j || T j))+dA (gW WS (ns.filter fun j=>S j && T j))=dA (gW WS (ns.filter S))+dA (gW WS (ns.filter T))
 | []=>rfl
 | j :: r=>by
  have ih:=nH S T r
  rw [fC,fC,fC,fC]
  cases S j <;> cases T j <;> simp only [Bool.or_true,Bool.or_false,Bool.and_true,Bool.and_false,Bool.false_eq_true,if_true,if_false] <;> grind
theorem kH (S T:Nat->Bool) (t:Nat):∀ ns:List Nat,bD (gW WS (ns.filter fun j=>S j || T j)) t+bD (gW WS (ns.filter fun j=>S j && T j)) t=bD (gW WS (ns.filter S)) t+bD (gW WS (ns.filter T)) t/\bD (gW WS (ns.filter S)) t≤bD (gW WS (ns.filter fun j=>S j || T j)) t/\bD (gW WS (ns.filter T)) t≤bD (gW WS (ns.filter fun j=>S j || T j)) t
 | []=>⟨rfl,Nat.le_refl _,Nat.le_refl _⟩
 | j :: r=>by
  obtain⟨a,b,c⟩:=kH S T t r
  rw [gB,gB,gB,gB]
  cases S j <;> cases T j <;> cases fL (WS.getD j cC) t <;> simp only [Bool.or_true,Bool.or_false,Bool.and_true,Bool.and_false,Bool.false_eq_true,if_true,if_false] <;> omega
theorem xO (h:fr.length=24) (S T:Nat->Bool):bi (gW WS (ns.filter fun j=>S j || T j)) fr+bi (gW WS (ns.filter fun j=>S j && T j)) fr≤bi (gW WS (ns.filter S)) fr+bi (gW WS (ns.filter T)) fr:=by
 have e1:=fM (ws:=gW WS (ns.filter fun j=>S j || T j)) h
 have e2:=fM (ws:=gW WS (ns.filter fun j=>S j && T j)) h
 have e3:=fM (ws:=gW WS (ns.filter S)) h
 have e4:=fM (ws:=gW WS (ns.filter T)) h
 have l:=dS (f:=fun t=>((min (fr.getD t 0) (bD (gW WS (ns.filter fun j=>S j || T j)) t):Nat):Int)+((min (fr.getD t 0) (bD (gW WS (ns.filter fun j=>S j && T j)) t):Nat):Int)) (g:=fun t=>((min (fr.getD t 0) (bD (gW WS (ns.filter S)) t):Nat):Int)+((min (fr.getD t 0) (bD (gW WS (ns.filter T)) t):Nat):Int)) (n:=24) fun t _=>by
  obtain⟨a,b,c⟩:=kH (WS:=WS) S T t ns
  omega
 rw [iL,iL] at l
 omega
theorem B6 (h:∀ j∈ns,0 < val (WS.getD j cC).2.2) (S:Nat->Bool):0≤dA (gW WS (ns.filter S)):=by
 induction ns with
 | nil=>exact Rat.le_refl
 | cons j r ih=>
  rw [fC]
  have a:=h j List.mem_cons_self
  have b:=ih fun j hj=>h j (List.mem_cons_of_mem _ hj)
  cases S j <;> simp only [Bool.false_eq_true,if_true,if_false] <;> grind
theorem nT (h:∀ j∈ns,0 < val (WS.getD j cC).2.2) {j:Nat} (hj:j∈ns) (hS:S j=true):0 < dA (gW WS (ns.filter S)):=by
 induction ns with
 | nil=>cases hj
 | cons i r ih=>
  rw [fC]
  have a:=h i List.mem_cons_self
  have b:=B6 (fun j hj=>h j (List.mem_cons_of_mem _ hj)) S
  rcases List.mem_cons.mp hj with z | z
  ·subst z
   rw [if_pos hS]
   grind
  ·have c:=ih (fun j hj=>h j (List.mem_cons_of_mem _ hj)) z
   cases S i <;> simp only [Bool.false_eq_true,if_true,if_false] <;> grind
theorem o7 (h:∀ j∈ns,S j=false):ns.filter S=[]:=List.filter_eq_nil_iff.mpr fun j hj z=>by rw [h j hj] at z;cases z
theorem nP (h:fr.length=24):bi [] fr=0:=by
 have e:=fM (ws:=[]) h
 rw [bB (g:=fun _=>0) (fun t _=>by show ((min _ 0:Nat):Int)=0;omega),eg] at e
 omega
theorem qC {v:Rat} (h:fr.length=24) (nn:0≤v) (all:∀ S:Nat->Bool,dA (gW WS (ns.filter S))≤v * ((bi (gW WS (ns.filter S)) fr:Nat):Rat)) (a:dA (gW WS (ns.filter S))=v * ((bi (gW WS (ns.filter S)) fr:Nat):Rat)) (b:dA (gW WS (ns.filter T))=v * ((bi (gW WS (ns.filter T)) fr:Nat):Rat)):dA (gW WS (ns.filter fun j=>S j || T j))=v * ((bi (gW WS (ns.filter fun j=>S j || T j)) fr:Nat):Rat):=by
 have m:=nH (WS:=WS) S T ns
 have s:=Rat.natCast_le_natCast.mpr (xO (WS:=WS) (ns:=ns) h S T)
 rw [Rat.natCast_add,Rat.natCast_add] at s
 have l:=Rat.mul_le_mul_of_nonneg_left s nn
 rw [Rat.mul_add,Rat.mul_add] at l
 have x:=all fun j=>S j || T j
 have y:=all fun j=>S j && T j
 refine Rat.le_antisymm x ?_
 grind
theorem j3.tight {r:R} {U:Nat->Bool} (F:j3 WS ns fr r U) (h:fr.length=24):dA (gW WS (ns.filter U))=val r * ((bi (gW WS (ns.filter U)) fr:Nat):Rat):=by
 have key:∀ l:List Nat,(∀ j∈l,j∈ns)->∃ S:Nat->Bool,dA (gW WS (ns.filter S))=val r * ((bi (gW WS (ns.filter S)) fr:Nat):Rat)/\(∀ j∈l,U j=true->S j=true)/\∀ j∈ns,S j=true->U j=true:=fun l=>by
  induction l with
  | nil=>
   intro _
   refine⟨fun _=>false,?_,(fun j hj=>by cases hj),fun j _ z=>by cases z⟩
   rw [o7 fun _ _=>rfl]
   show (0:Rat)=_ * ((bi [] fr:Nat):Rat)
   rw [nP h]
   exact (Rat.mul_zero _).symm
  | cons i l ih=>
   intro hl
   obtain⟨S,t,a,b⟩:=ih fun j hj=>hl j (List.mem_cons_of_mem _ hj)
   by_cases c:U i=true
   ·obtain⟨T,ti,et⟩:=(F.u i (hl i List.mem_cons_self)).mp c
    refine⟨fun j=>S j || T j,qC h F.nn F.all t et,fun j hj hu=>?_,fun j hj z=>?_⟩
    ·rcases List.mem_cons.mp hj with z | z
     ·subst z
      show (S j || T j)=true
      rw [ti,Bool.or_true]
     ·show (S j || T j)=true
      rw [a j z hu,Bool.true_or]
    ·rcases Bool.or_eq_true_iff.mp z with z | z
     ·exact b j hj z
     ·exact (F.u j hj).mpr ⟨T,z,et⟩
   ·exact⟨S,t,fun j hj hu=>by
     rcases List.mem_cons.mp hj with z | z
     ·subst z;exact absurd hu c
     ·exact a j z hu,b⟩
 obtain⟨S,t,a,b⟩:=key ns fun _ h=>h
 have e:ns.filter U=ns.filter S:=List.filter_congr fun j hj=>by
  rw [Bool.eq_iff_iff]
  exact⟨a j hj,b j hj⟩
 rw [e]
 exact t
def kZ (WS:List Wk) (ns fr:List Nat):Prop:=∀ j∈ns,∃ t,t < 24/\fL (WS.getD j cC) t=true/\0 < fr.getD t 0
theorem wA {j t:Nat} (hj:j∈ns) (hS:S j=true) (hw:fL (WS.getD j cC) t=true):0 < bD (gW WS (ns.filter S)) t:=by
 unfold bD
 exact List.length_pos_of_mem (List.mem_filter.mpr ⟨List.mem_map.mpr ⟨j,List.mem_filter.mpr ⟨hj,hS⟩,rfl⟩,hw⟩)
theorem kA (h:fr.length=24) (P:kZ WS ns fr) {j:Nat} (hj:j∈ns) (hS:S j=true):0 < bi (gW WS (ns.filter S)) fr:=by
 obtain⟨t,ht,hw,hf⟩:=P j hj
 have e:=fM (ws:=gW WS (ns.filter S)) h
 have c:=wA (WS:=WS) hj hS hw
 have m:=mS (f:=fun t=>((min (fr.getD t 0) (bD (gW WS (ns.filter S)) t):Nat):Int)) (n:=24) (i:=t) (fun _ _=>Int.natCast_nonneg _) ht
 have m':((min (fr.getD t 0) (bD (gW WS (ns.filter S)) t):Nat):Int)≤sm (fun t=>((min (fr.getD t 0) (bD (gW WS (ns.filter S)) t):Nat):Int)) 24:=m
 omega
def ld (fr:List Nat) (ws:List Wk):List Nat:=(List.range 24).map fun t=>fr.getD t 0 - min (fr.getD t 0) (bD ws t)
theorem um {ws:List Wk} {t:Nat} (ht:t < 24):(ld fr ws).getD t 0=fr.getD t 0 - min (fr.getD t 0) (bD ws t):=aq 0 (by unfold ld;rw [List.getElem?_map,List.getElem?_range ht];rfl)
theorem kP {ws:List Wk}:(ld fr ws).length=24:=by unfold ld;rw [List.length_map,List.length_range]
theorem j3.next {r:R} {U:Nat->Bool} (F:j3 WS ns fr r U) (h:fr.length=24) (am:∀ j∈ns,0 < val (WS.getD j cC).2.2):kZ WS (ns.filter fun j=>!U j) (ld fr (gW WS (ns.filter U))):=fun j hj=>by
 obtain⟨hj,hu⟩:=List.mem_filter.mp hj
 have hu:U j=false:=by cases c:U j with | true=>rw [c] at hu;cases hu | false=>rfl
 apply Classical.byContradiction
 intro no
 have cap:∀ t,t < 24->fL (WS.getD j cC) t=true->fr.getD t 0≤bD (gW WS (ns.filter U)) t:=fun t ht hw=>by
  apply Classical.byContradiction
  intro z
  exact no ⟨t,ht,hw,by rw [um ht];omega⟩
 have le:bi (gW WS (ns.filter fun i=>U i || (i == j))) fr≤bi (gW WS (ns.filter U)) fr:=by
  have e1:=fM (ws:=gW WS (ns.filter fun i=>U i || (i == j))) h
  have e2:=fM (ws:=gW WS (ns.filter U)) h
  have l:=dS (f:=fun t=>((min (fr.getD t 0) (bD (gW WS (ns.filter fun i=>U i || (i == j))) t):Nat):Int)) (g:=fun t=>((min (fr.getD t 0) (bD (gW WS (ns.filter U)) t):Nat):Int)) (n:=24) fun t ht=>by
   obtain⟨a,b,c⟩:=kH (WS:=WS) U (fun i=>i == j) t ns
   by_cases hw:fL (WS.getD j cC) t=true
   ·have:=cap t ht hw
    omega
   ·have z:bD (gW WS (ns.filter fun i=>i == j)) t=0:=by
     unfold bD
     rw [List.length_eq_zero_iff,List.filter_eq_nil_iff]
     intro w hm q
     obtain⟨i,hi,rfl⟩:=List.mem_map.mp hm
     have:=eq_of_beq (List.mem_filter.mp hi).2
     subst this
     exact hw q
    omega
  omega
 have m:=nH (WS:=WS) U (fun i=>i == j) ns
 rw [o7 (S:=fun i=>U i && (i == j)) (fun i _=>by
  by_cases c:i=j
  ·rw [c,hu];rfl
  ·rw [beq_eq_false_iff_ne.mpr c,Bool.and_false])] at m
 have p:=nT (S:=fun i=>i == j) am hj (beq_self_eq_true j)
 have t:=F.tight h
 have a:=F.all fun i=>U i || (i == j)
 have l:=Rat.mul_le_mul_of_nonneg_left (Rat.natCast_le_natCast.mpr le) F.nn
 have z:dA (gW WS [])=0:=rfl
 grind
theorem j3.some {r:R} {U:Nat->Bool} (F:j3 WS ns fr r U) (h:fr.length=24):∃ j∈ns,U j=true:=by
 obtain⟨S,b,e⟩:=F.atn
 cases q:ns.filter S with
 | nil=>
  rw [q] at b
  have:bi (gW WS []) fr=0:=nP h
  omega
 | cons j t=>
  have m:=List.mem_filter.mp (show j∈ns.filter S by rw [q];exact List.mem_cons_self)
  exact⟨j,m.1,(F.u j m.1).mpr ⟨S,m.2,e⟩⟩
theorem j3.uniq {r r':R} {U U':Nat->Bool} (F:j3 WS ns fr r U) (F':j3 WS ns fr r' U'):r=r'/\∀ j∈ns,U j=U' j:=by
 have le:∀ {r r':R} {U U':Nat->Bool},j3 WS ns fr r U->j3 WS ns fr r' U'->val r≤val r':=fun {r r' U U'} F F'=>by
  obtain⟨S,b,e⟩:=F.atn
  have a:=F'.all S
  rw [e] at a
  have b':(0:Rat) < ((bi (gW WS (ns.filter S)) fr:Nat):Rat):=Rat.natCast_pos.mpr b
  apply Classical.byContradiction
  intro z
  have:=Rat.mul_lt_mul_of_pos_right (Rat.not_le.mp z) b'
  grind
 have e:r=r':=j6 F.rd F'.rd (Rat.le_antisymm (le F F') (le F' F))
 subst e
 refine⟨rfl,fun j hj=>?_⟩
 rw [Bool.eq_iff_iff,F.u j hj,F'.u j hj]
end
inductive qy (WS:List Wk) (f:Nat->R):List Nat->List Nat->Prop where
 | nil {fr:List Nat}:qy WS f [] fr
 | step {ns fr:List Nat} {r:R} {U:Nat->Bool} (F:j3 WS ns fr r U) (h:∀ j∈ns,U j=true->f j=r) (n:qy WS f (ns.filter fun j=>!U j) (ld fr (gW WS (ns.filter U)))):qy WS f ns fr
theorem qy.uniq {WS:List Wk} {f g:Nat->R} {ns fr:List Nat} (a:qy WS f ns fr) (b:qy WS g ns fr):∀ j∈ns,f j=g j:=by
 induction a with
 | nil=>intro j hj;cases hj
 | @step ns fr r U F h n ih=>
  intro j hj
  cases b with
  | nil=>cases hj
  | @step _ _ r' U' F' h' n'=>
   obtain⟨e,eu⟩:=F.uniq F'
   have e1:ns.filter U=ns.filter U':=List.filter_congr eu
   have e2:(ns.filter fun j=>!U j)=ns.filter fun j=>!U' j:=List.filter_congr fun j hj=>by rw [eu j hj]
   rw [← e1,← e2] at n'
   by_cases c:U j=true
   ·rw [h j hj c,h' j hj (by rw [← eu j hj];exact c),e]
   ·exact ih n' j (List.mem_filter.mpr ⟨hj,by cases d:U j with | true=>exact absurd d c | false=>rfl⟩)
def qr (w:Wk):Prop:=w.1≤w.2.1/\w.2.1 < 24/\Bq 84 12 w.2.2/\0 < w.2.2.1
structure qw (ws:List Wk):Prop where
 len:ws.length≤6
 gd:∀ w∈ws,qr w
def Ax:List Int:=List.replicate 24 0
def cZ (B:Int) (r:R):Int:=r.1 * (B / r.2)
def uM (ws:List Wk) (fr:List Nat) (B:Int) (r:R):Ps:=⟨ws,fr,cZ B r,ws.map fun w=>cZ B w.2.2,ws.map fun w=>cZ B w.2.2,fr.map fun f:Nat=>cZ B r * (f:Int),List.replicate ws.length Ax⟩
theorem tM {B:Int} {r:R} (p:0 < r.2) (d:r.2∣B):((cZ B r:Int):Rat)=(B:Rat) * val r:=by
 obtain⟨q,rfl⟩:=d
 unfold cZ
 rw [Int.mul_ediv_cancel_left _ (by omega),Rat.intCast_mul,Rat.intCast_mul]
 have:=cH p
 unfold val
 generalize (r.1:Rat)=x at *
 generalize (r.2:Rat)=y at *
 grind
theorem tN {B:Int} {r:R} (p:0 < r.2) (d:r.2∣B) (b:0 < B) (t:0 < r.1):0 < cZ B r:=Int.mul_pos t (Int.ediv_pos_of_pos_of_dvd b (Int.le_of_lt p) d)
section
variable {ws:List Wk} {fr:List Nat} {B:Int} {r:R}
theorem iT (i t:Nat):(uM ws fr B r).pf i t=0:=by
 unfold Ps.pf uM Ax
 show ((List.replicate ws.length (List.replicate 24 (0:Int))).getD i []).getD t 0=0
 rw [List.getD_eq_getElem?_getD (l:=List.replicate ws.length _),List.getElem?_replicate]
 by_cases c:i < ws.length
 ·rw [if_pos c]
  show (List.replicate 24 (0:Int)).getD t 0=0
  rw [List.getD_eq_getElem?_getD,List.getElem?_replicate]
  split <;> rfl
 ·rw [if_neg c]
  rfl
theorem sQ {i:Nat} (h:i < ws.length):(ws.map fun w=>cZ B w.2.2).getD i 0=cZ B (ws.getD i cC).2.2:=by
 rw [aq cC (List.getElem?_eq_getElem h)]
 exact aq 0 (by rw [List.getElem?_map,List.getElem?_eq_getElem h];rfl)
theorem eS {i:Nat} (h:i < ws.length):ws.getD i cC∈ws:=by
 rw [aq cC (List.getElem?_eq_getElem h)]
 exact List.getElem_mem h
theorem yP (g:qw ws) (f:fr.length=24):dg (uM ws fr B r):=by
 have l:=g.len
 refine⟨by show ws.length≤20;omega,f,fun w hw=>⟨(g.gd w hw).1,(g.gd w hw).2.1⟩,List.length_map _,List.length_map _,(List.length_map _).trans f,List.length_replicate,fun q hq=>?_⟩
 rw [(List.mem_replicate.mp hq).2]
 rfl
theorem Br (g:qw ws) (f:fr.length=24) (b0:0 < B) (p:0 < r.2) (d:r.2∣B) (t0:0 < r.1) (dw:∀ w∈ws,w.2.2.2∣B):pk (uM ws fr B r)/\AE (uM ws fr B r) r B:=by
 have m0:=tN p d b0 t0
 have a0:∀ i,i < ws.length->0 < (ws.map fun w=>cZ B w.2.2).getD i 0:=fun i hi=>by
  rw [sQ hi]
  have m:=eS hi
  have gg:=g.gd _ m
  exact tN gg.2.2.1.pos (dw _ m) b0 gg.2.2.2
 have rest:∀ i,(uM ws fr B r).net.rest (uM ws fr B r).pf i=(ws.map fun w=>cZ B w.2.2).getD i 0:=fun i=>by
  unfold dq.rest
  rw [bB (g:=fun _=>0) (fun t _=>iT i t),eg]
  exact Int.sub_zero _
 have room:∀ t,(uM ws fr B r).net.room (uM ws fr B r).pf t=cZ B r * ((fr.getD t 0:Nat):Int):=fun t=>by
  unfold dq.room
  rw [bB (g:=fun _=>0) (fun i _=>iT i t),eg]
  exact Int.sub_zero _
 refine⟨⟨yP g f,⟨Int.le_of_lt m0,fun i t _ _=>?_,fun i t _ _=>?_,fun i t _ _ _=>iT i t,fun i hi=>?_,fun t _=>?_⟩,fun i hi=>(rest i).symm,fun t ht=>?_,a0⟩,⟨b0,tM p d,fun i hi=>?_⟩⟩
 ·rw [iT];exact Int.le_refl _
 ·rw [iT];exact Int.le_of_lt m0
 ·rw [rest];exact Int.le_of_lt (a0 i hi)
 ·rw [room];exact Int.mul_nonneg (Int.le_of_lt m0) (Int.natCast_nonneg _)
 ·rw [room]
  exact aq 0 (by
   show (fr.map fun f:Nat=>cZ B r * (f:Int))[t]?=_
   rw [List.getElem?_map,List.getElem?_eq_getElem (by omega:t < fr.length),aq 0 (List.getElem?_eq_getElem (by omega:t < fr.length))]
   rfl)
 ·have hi:i < ws.length:=hi
  show (((ws.map fun w=>cZ B w.2.2).getD i 0:Int):Rat)=(B:Rat) * val (ws.getD i cC).2.2
  rw [sQ hi]
  have m:=eS hi
  exact tM (g.gd _ m).2.2.1.pos (dw _ m)
end
theorem none_of {H H':Hp} {q:Addr} (k:∀ o,H q=some o->H' q=some o) (h:H' q=none):H q=none:=by
 cases c:H q with
 | none=>rfl
 | some o=>rw [k o c] at h;cases h
def hZ (K:PySem.W.Frag) (C:Addr):Sp:=fun vs H Q _=>∃ (x dx a b:Addr) (v:V) (xs:List V) (ws:List Wk) (fr:List Nat) (r:R) (D:Nat),vs=[.ref x,.ref a,.ref b,v]/\H x=some (.ins C dx [])/\H a=some (.lst xs)/\cQ (jn K H) xs ws/\qw ws/\b≠x/\aF K H b (av fr)/\fr.length=24/\(∀ f∈fr,f < 2 ^ 40)/\RV K H v r/\0 < r.2/\0 < r.1/\r.1.natAbs < 2 ^ 60/\0 < D/\D < 2 ^ 60/\84∣D/\r.2∣(D:Int)∧
 ∀ (p:fZ) (B:Int) (H':Hp),(∀ b o,b≠x->H b=some o->H' b=some o)->p.a=x->p.li=a->(∀ q∈p.l,q≠x->H q=none)->0 < B->B∣(D:Int)->r.2∣B->(∀ w∈ws,w.2.2.2∣B)->d7 K C H' p (uM ws fr B r)->Q .non H'
def fT (K:PySem.W.Frag) (C:Addr):Sp:=fun vs H Q _=>∃ (p:fZ) (s:Ps) (n:Nat),vs=[.ref p.a,.int (n:Nat)]/\d7 K C H p s/\dg s/\n < s.ws.length/\(∀ w∈s.ws,qr w)/\0 < s.A.getD n 0/\(s.A.getD n 0).natAbs < 2 ^ 200/\(∀ t,t < 24->(s.pf n t).natAbs < 2 ^ 200)/\∀ v H',az H H'->Q v H'
theorem eT:∀ {rs:List R},(∀ r∈rs,eQ r)->∀ {a:R},eQ a->eQ (rs.foldl bU a)/\val (rs.foldl bU a)=val a+(rs.map val).sum
 | [],_,a,ha=>⟨ha,by show val a=val a+0;grind⟩
 | r :: rs,h,a,ha=>by
  have hr:=h r List.mem_cons_self
  obtain⟨x,y⟩:=eT (fun q hq=>h q (List.mem_cons_of_mem _ hq)) (lT ha hr)
  refine⟨x,?_⟩
  rw [List.foldl_cons,y,f6 ha.pos hr.pos,List.map_cons,List.sum_cons]
  grind
theorem lv:eQ ((0,1):R):=⟨by decide,by decide⟩
theorem uE {ws:List Wk} (h:∀ w∈ws,eQ w.2.2):eQ (dD (ws.map fun w=>w.2.2))/\val (dD (ws.map fun w=>w.2.2))=dA ws:=by
 obtain⟨x,y⟩:=eT (rs:=ws.map fun w=>w.2.2) (fun r hr=>by obtain⟨w,hw,rfl⟩:=List.mem_map.mp hr;exact h w hw) lv
 refine⟨x,?_⟩
 have e:val ((0,1):R)=0:=(lB (r:=(0,1)) (by decide)).mpr rfl
 rw [e,List.map_map] at y
 show val ((ws.map fun w=>w.2.2).foldl bU (0,1))=_
 rw [y]
 show 0+dA ws=dA ws
 grind
theorem uB {ws:List Wk} {fr:List Nat} (f:fr.length=24) (h:ws.length≤6):bi ws fr≤144:=by
 have e:=fM (ws:=ws) f
 have l:=dS (f:=fun t=>((min (fr.getD t 0) (bD ws t):Nat):Int)) (g:=fun _=>6) (n:=24) fun t _=>by
  have:bD ws t≤ws.length:=List.length_filter_le _ _
  omega
 have z:sm (fun _=>6) 24=144:=by decide
 omega
theorem oI {ws:List Wk} {fr:List Nat} (f:fr.length=24) (g:∀ w∈ws,qr w) (l:ws.length≤6) (b:0 < bi ws fr) (ne:ws≠[]):Bq (84 * bi ws fr) 72 (bH ws fr)/\0 < (bH ws fr).1/\val (bH ws fr) * ((bi ws fr:Nat):Rat)=dA ws:=by
 have sq:=(ip (D:=84) (N:=12) (by decide) (rs:=ws.map fun w=>w.2.2) fun r hr=>by obtain⟨w,hw,rfl⟩:=List.mem_map.mp hr;exact (g w hw).2.2.1).mono (Nat.dvd_refl _) (show 12 * (ws.map fun w=>w.2.2).length≤72 by rw [List.length_map];omega)
 have oq:Bq (bi ws fr) 1 ((1,(bi ws fr:Int)):R):=⟨by show (0:Int) < bi ws fr;omega,by show Int.gcd 1 _=1;exact Int.one_gcd,Int.dvd_refl _,by show 1≤1 * ((bi ws fr:Nat):Int).natAbs;omega⟩
 obtain⟨rd,ev⟩:=uE (ws:=ws) fun w hw=>(g w hw).2.2.1.red
 have q:=sq.times oq
 have p:val (bH ws fr) * ((bi ws fr:Nat):Rat)=dA ws:=by
  unfold bH
  rw [jB rd.pos oq.pos,ev]
  have e1:val ((1,(bi ws fr:Int)):R)=1 / ((bi ws fr:Nat):Rat):=by
   unfold val
   show ((1:Int):Rat) / (((bi ws fr:Nat):Int):Rat)=_
   rw [Rat.intCast_natCast]
   rfl
  have e2:((bi ws fr:Nat):Rat)≠0:=fun z=>by
   have:(0:Rat) < ((bi ws fr:Nat):Rat):=Rat.natCast_pos.mpr b
   grind
  rw [e1]
  generalize ((bi ws fr:Nat):Rat)=y at *
  grind
 refine⟨q,?_,p⟩
 have ap:0 < dA ws:=by
  have h:=nT (WS:=ws) (ns:=List.range ws.length) (S:=fun _=>true) (j:=0) (fun j hj=>by
   have m:=eS (List.mem_range.mp hj)
   have gg:=g _ m
   apply Classical.byContradiction
   intro z
   have v0:val (ws.getD j cC).2.2≤0:=Rat.not_lt.mp z
   have:0 < val (ws.getD j cC).2.2:=by
    have x1:(0:Rat) < (((ws.getD j cC).2.2.1:Int):Rat):=io gg.2.2.2
    have x2:(0:Rat) < (((ws.getD j cC).2.2.2:Int):Rat):=io gg.2.2.1.pos
    unfold val
    rw [Rat.lt_div_iff x2]
    rw [Rat.zero_mul]
    exact x1
   grind) (List.mem_range.mpr (List.length_pos_iff.mpr ne)) rfl
  rw [show gW ws ((List.range ws.length).filter fun _=>true)=ws by
   have e:=bg cC (fun w:Wk=>w) ws
   rw [List.map_id' ] at e
   exact e] at h
  exact h
 apply Classical.byContradiction
 intro z
 have nb:(0:Rat) < ((bi ws fr:Nat):Rat):=Rat.natCast_pos.mpr b
 have vle:val (bH ws fr)≤0:=by
  apply Classical.byContradiction
  intro w
  have w:=Rat.not_le.mp w
  have x2:(0:Rat) < (((bH ws fr).2:Int):Rat):=io q.pos
  unfold val at w
  rw [Rat.lt_div_iff x2,Rat.zero_mul] at w
  have w':((0:Int):Rat) < (((bH ws fr).1:Int):Rat):=w
  exact z (Rat.intCast_lt_intCast.mp w')
 have:=Rat.mul_le_mul_of_nonneg_right vle (Rat.le_of_lt nb)
 grind
def c5 (ns:List Nat):List (List Nat):=ns.foldl (fun f j=>f++f.map (·++[j])) [[]]
theorem fk (ns:List Nat) (j:Nat):c5 (ns++[j])=c5 ns++(c5 ns).map (·++[j]):=by
 unfold c5
 rw [List.foldl_append]
 rfl
theorem cI:∀ {n:Nat} {ns L:List Nat},ns.length=n->(L∈c5 ns↔L.Sublist ns)
 | 0,ns,L,h=>by
  rw [List.length_eq_zero_iff.mp h]
  show L∈[[]]↔_
  rw [List.mem_singleton,List.sublist_nil]
 | n+1,ns,L,h=>by
  have ne:ns≠[]:=fun z=>by rw [z] at h;cases h
  obtain⟨a,j,rfl⟩:∃ a j,ns=a++[j]:=⟨ns.dropLast,ns.getLast ne,(List.dropLast_concat_getLast ne).symm⟩
  rw [List.length_append,List.length_singleton] at h
  rw [fk,List.mem_append,List.mem_map,List.sublist_append_iff]
  constructor
  ·rintro (z | ⟨M,hM,rfl⟩)
   ·exact⟨L,[],(List.append_nil L).symm,(cI (n:=n) (by omega)).mp z,List.nil_sublist _⟩
   ·exact⟨M,[j],rfl,(cI (n:=n) (by omega)).mp hM,List.Sublist.refl _⟩
  ·rintro⟨a',b',rfl,h1,h2⟩
   cases h2 with
   | cons _ h2=>
    rw [List.sublist_nil.mp h2,List.append_nil]
    exact .inl ((cI (n:=n) (by omega)).mpr h1)
   | cons_cons _ h2=>
    rw [List.sublist_nil.mp h2]
    exact .inr ⟨a',(cI (n:=n) (by omega)).mpr h1,rfl⟩
theorem jS {α:Type} {p q:α->Bool}:∀ {l:List α},(∀ x∈l,p x=true->q x=true)->(∃ y∈l,q y=true/\p y=false)->(l.filter p).length < (l.filter q).length
 | [],_,h=>by obtain⟨y,hy,_⟩:=h;cases hy
 | x :: l,h,e=>by
  have le:∀ l:List α,(∀ x∈l,p x=true->q x=true)->(l.filter p).length≤(l.filter q).length:=fun l=>by
   induction l with
   | nil=>intro _;exact Nat.le_refl _
   | cons x l ih=>
    intro h
    have i:=ih fun y hy=>h y (List.mem_cons_of_mem _ hy)
    have a:=h x List.mem_cons_self
    rw [List.filter_cons,List.filter_cons]
    cases c:p x with
    | true=>rw [a c,if_pos rfl,if_pos rfl,List.length_cons,List.length_cons];omega
    | false=>
     rw [if_neg Bool.false_ne_true]
     split
     ·rw [List.length_cons];omega
     ·exact i
  have hl:=le l fun y hy=>h y (List.mem_cons_of_mem _ hy)
  obtain⟨y,hy,y1,y2⟩:=e
  rw [List.filter_cons,List.filter_cons]
  rcases List.mem_cons.mp hy with z | z
  ·subst z
   rw [y1,y2,if_neg Bool.false_ne_true,if_pos rfl,List.length_cons]
   omega
  ·have ih:=jS (fun y hy=>h y (List.mem_cons_of_mem _ hy)) ⟨y,z,y1,y2⟩
   have a:=h x List.mem_cons_self
   cases c:p x with
   | true=>rw [a c,if_pos rfl,if_pos rfl,List.length_cons,List.length_cons];omega
   | false=>
    rw [if_neg Bool.false_ne_true]
    split
    ·rw [List.length_cons];omega
    ·exact ih
def pq (ws:List Wk) (fr:List Nat) (L:List Nat):Rat:=dA (gW ws L) / ((bi (gW ws L) fr:Nat):Rat)
def CD (ws:List Wk) (fr:List Nat) (x:Rat):Nat:=((c5 (List.range ws.length)).filter fun L=>decide (x < pq ws fr L)).length
theorem zI {ws:List Wk} {fr:List Nat} {x:Rat} {S:Nat->Bool} (b:0 < bi (gW ws ((List.range ws.length).filter S)) fr) (h:x * ((bi (gW ws ((List.range ws.length).filter S)) fr:Nat):Rat) < dA (gW ws ((List.range ws.length).filter S))):CD ws fr (pq ws fr ((List.range ws.length).filter S)) < CD ws fr x:=by
 have b':(0:Rat) < ((bi (gW ws ((List.range ws.length).filter S)) fr:Nat):Rat):=Rat.natCast_pos.mpr b
 have lt:x < pq ws fr ((List.range ws.length).filter S):=by
  unfold pq
  rw [Rat.lt_div_iff b']
  exact h
 unfold CD
 refine jS (fun L _ hL=>?_) ⟨_,(cI rfl).mpr List.filter_sublist,decide_eq_true lt,decide_eq_false Rat.lt_irrefl⟩
 have:=of_decide_eq_true hL
 exact decide_eq_true (by grind)
theorem ui (ws:List Wk):gW ws (List.range ws.length)=ws:=by
 have e:=bg cC (fun w:Wk=>w) ws
 rw [List.map_id',List.filter_eq_self.mpr (by intros;rfl)] at e
 exact e
theorem ff {K:PySem.W.Frag} {H:Hp} {xs:List V} {ws:List Wk} (al:cQ (jn K H) xs ws):∀ {L:List Nat},(∀ i∈L,i < ws.length)->cQ (jn K H) (L.map fun i=>xs.getD i V.non) (gW ws L)
 | [],_=>.nil
 | i :: L,h=>by
  have hi:=h i List.mem_cons_self
  have ll:=al.len
  obtain⟨xw,hxw⟩:∃ xw,xs[i]?=some xw:=⟨_,List.getElem?_eq_getElem (by omega)⟩
  obtain⟨w,hw,wv⟩:=al.at hxw
  refine .cons ?_ (ff al fun j hj=>h j (List.mem_cons_of_mem _ hj))
  show jn K H (xs.getD i V.non) (ws.getD i cC)
  rw [aq V.non hxw,aq cC hw]
  exact wv
structure Tg (ws:List Wk) (fr:List Nat) (r:R) (s:Ps):Prop where
 F:pk s
 ew:s.ws=ws
 ef:s.fr=fr
 M:s.M.natAbs < 2 ^ 200
 A:∀ i,i < ws.length->(s.A.getD i 0).natAbs < 2 ^ 200
 fst:j3 ws (List.range ws.length) fr r (uR s.net s.pf)
 wf:Wf 60 r
def fG (K:PySem.W.Frag) (C:Addr):Sp:=fun vs H Q _=>∃ (a b:Addr) (xs:List V) (ws:List Wk) (fr:List Nat),vs=[.ref a,.ref b]/\H a=some (.lst xs)/\cQ (jn K H) xs ws/\qw ws/\0 < ws.length/\H b=some (.lst (av fr))/\fr.length=24/\(∀ f∈fr,f≤20)/\kZ ws (List.range ws.length) fr/\∀ (q:Addr) (v:V) (p:fZ) (s:Ps) (r:R) (H':Hp),az H H'->bS K H' q [v,.ref p.a]->RV K H' v r->d7 K C H' p s->Tg ws fr r s->Q (.ref q) H'
theorem xm {B:Int} {r:R} {D:Nat} (b0:0 < B) (bd:B∣(D:Int)) (d0:0 < D) (d:D < 2 ^ 60) (r2:0 < r.2) (t:r.1.natAbs < 2 ^ 60):(cZ B r).natAbs < 2 ^ 200:=by
 have h1:=Int.le_of_dvd (by omega) bd
 have h2:=Int.ediv_le_self r.2 (Int.le_of_lt b0)
 have h3:=Int.ediv_nonneg (Int.le_of_lt b0) (Int.le_of_lt r2)
 have h4:(B / r.2).natAbs < 2 ^ 60:=by omega
 exact Nat.lt_trans (gK t h4) (by decide)
section
variable {WS:List Wk} {ns fr:List Nat}
theorem xr {p:Nat} (h:p < ns.length):(gW WS ns).getD p cC=WS.getD (ns.getD p 0) cC:=by
 rw [aq 0 (List.getElem?_eq_getElem h)]
 exact aq cC (by unfold gW;rw [List.getElem?_map,List.getElem?_eq_getElem h];rfl)
theorem BW {L:List Nat} (h:∀ p∈L,p < ns.length):gW (gW WS ns) L=gW WS (L.map fun p=>ns.getD p 0):=by
 show L.map (fun p=>(gW WS ns).getD p cC)=(L.map fun p=>ns.getD p 0).map fun j=>WS.getD j cC
 rw [List.map_map]
 exact List.map_congr_left fun p hp=>xr (h p hp)
theorem sS (S:Nat->Bool):((List.range ns.length).filter fun p=>S (ns.getD p 0)).map (fun p=>ns.getD p 0)=ns.filter S:=by
 have e:=d6 0 S (fun j:Nat=>j) ns
 rw [List.map_id'] at e
 exact e
theorem kO (S:Nat->Bool):gW (gW WS ns) ((List.range ns.length).filter fun p=>S (ns.getD p 0))=gW WS (ns.filter S):=by
 rw [BW fun p hp=>List.mem_range.mp (List.mem_filter.mp hp).1,sS]
theorem zU (nd:ns.Nodup) {p:Nat} (h:p < ns.length):ns.idxOf (ns.getD p 0)=p:=by
 rw [aq 0 (List.getElem?_eq_getElem h)]
 have hl:=List.idxOf_lt_length_of_mem (List.getElem_mem h)
 have e:=List.getElem_idxOf hl
 exact (List.getElem_inj nd).mp e
theorem Ah {j:Nat} (h:j∈ns):ns.idxOf j < ns.length/\ns.getD (ns.idxOf j) 0=j:=by
 have hl:=List.idxOf_lt_length_of_mem h
 refine⟨hl,?_⟩
 rw [aq 0 (List.getElem?_eq_getElem hl)]
 exact List.getElem_idxOf hl
theorem ny (nd:ns.Nodup) (S:Nat->Bool):(List.range ns.length).filter S=(List.range ns.length).filter fun p=>S (ns.idxOf (ns.getD p 0)):=List.filter_congr fun p hp=>by rw [zU nd (List.mem_range.mp hp)]
theorem j3.tr {r:R} {U:Nat->Bool} (nd:ns.Nodup) (F:j3 (gW WS ns) (List.range ns.length) fr r U):j3 WS ns fr r fun j=>U (ns.idxOf j):=by
 have to:∀ S:Nat->Bool,gW (gW WS ns) ((List.range ns.length).filter S)=gW WS (ns.filter fun j=>S (ns.idxOf j)):=fun S=>by rw [ny nd S];exact kO fun j=>S (ns.idxOf j)
 refine⟨F.rd,F.nn,?_,fun S=>?_,fun j hj=>?_⟩
 ·obtain⟨S,h1,h2⟩:=F.atn
  rw [to] at h1 h2
  exact⟨_,h1,h2⟩
 ·have h:=F.all fun p=>S (ns.getD p 0)
  rw [kO] at h
  exact h
 ·obtain⟨hl,e⟩:=Ah hj
  rw [F.u _ (List.mem_range.mpr hl)]
  constructor
  ·rintro⟨S,h1,h2⟩
   rw [to] at h2
   exact⟨fun j=>S (ns.idxOf j),h1,h2⟩
  ·rintro⟨S,h1,h2⟩
   refine⟨fun p=>S (ns.getD p 0),by show S (ns.getD (ns.idxOf j) 0)=true;rw [e];exact h1,?_⟩
   rw [kO]
   exact h2
theorem kZ.tr (P:kZ WS ns fr):kZ (gW WS ns) (List.range ns.length) fr:=fun p hp=>by
 have hl:=List.mem_range.mp hp
 obtain⟨t,a,b,c⟩:=P (ns.getD p 0) (by rw [aq 0 (List.getElem?_eq_getElem hl)];exact List.getElem_mem hl)
 exact⟨t,a,by rw [xr hl];exact b,c⟩
end
theorem uh {w:Wk} (g:qr w):0 < val w.2.2:=by
 have x1:(0:Rat) < ((w.2.2.1:Int):Rat):=io g.2.2.2
 have x2:(0:Rat) < ((w.2.2.2:Int):Rat):=io g.2.2.1.pos
 unfold val
 rw [Rat.lt_div_iff x2,Rat.zero_mul]
 exact x1
def xz (K:PySem.W.Frag) (H:Hp) (v:V) (r:R):Prop:=∃ p y z,v=.ref p/\bS K H p [y,z]/\RV K H y r
theorem xz.mono {K:PySem.W.Frag} {H H':Hp} {v:V} {r:R} (h:xz K H v r) (t:be K H H'):xz K H' v r:=let ⟨p,y,z,e,s,q⟩:=h;⟨p,y,z,e,t _ _ s,q.mono t⟩
def mw (H H':Hp):Prop:=∀ b o,(∀ k,o≠HO.dK k)->H b=some o->H' b=some o
section
variable {K:PySem.W.Frag} {C:Addr} {H H' H2:Hp} {p:fZ} {s:Ps}
theorem mw.up {d:Addr} {k:List (bR×V)} (e:H d=some (.dK k)) (k':List (bR×V)):mw H (ax H d (.dK k')):=fun b o n h=>by
 have nb:b≠d:=fun z=>by
  rw [z,e] at h
  injection h with h
  exact n k h.symm
 rw [aj nb]
 exact h
theorem mw.seq (z:mw H H') {a:Addr} {xs:List V} (h:aF K H a xs):aF K H' a xs:=by
 rcases h with (g | ⟨o,g⟩) | g
 ·exact .inl (.inl (z _ _ (fun k q=>by cases q) g))
 ·exact .inl (.inr ⟨o,z _ _ (fun k q=>by cases q) g⟩)
 ·exact .inr g
theorem mw.tst (z:mw H H'):be K H H':=fun b xs h=>by
 rcases h with (g | ⟨o,g⟩) | g
 ·exact .inl (.inl (z _ _ (fun k q=>by cases q) g))
 ·exact .inl (.inr ⟨o,z _ _ (fun k q=>by cases q) g⟩)
 ·exact .inr g
theorem mw.lst (z:mw H H') {a:Addr} {xs:List V} (h:H a=some (.lst xs)):H' a=some (.lst xs):=z _ _ (fun k q=>by cases q) h
theorem d7.nod (h:d7 K C H p s) (z:mw H H'):d7 K C H' p s:=by
 obtain⟨dx,i⟩:=h.ins
 obtain⟨xs,x1,x2⟩:=h.hi
 exact⟨⟨dx,z _ _ (fun k q=>by cases q) i⟩,⟨xs,z.seq x1,x2.mono fun _ _ q=>q.mono z.tst⟩,z.lst h.hw,z.lst h.hr,z.lst h.ho,z.lst h.hp,h.rl,fun i q r a b=>z.lst (h.row i q r a b),h.nd,h.nl⟩
end
abbrev Tl:=List (Nat×V)
def cL (tl:Tl):List (bR×V):=tl.map fun x=>(Sum.inl (x.1:Int),x.2)
theorem AO {tl:Tl} {v:Nat}:(cY (cL tl) (Sum.inl (v:Int))).isSome=decide (v∈tl.map (·.1)):=by
 induction tl with
 | nil=>rfl
 | cons x r ih=>
  by_cases c:x.1=v
  ·rw [show cL (x :: r)=(Sum.inl (x.1:Int),x.2) :: cL r from rfl,cT (by rw [c]),decide_eq_true (by rw [List.map_cons];exact List.mem_cons.mpr (.inl c.symm))]
   rfl
  ·rw [show cL (x :: r)=(Sum.inl (x.1:Int),x.2) :: cL r from rfl,cU (fun z=>c (by have:(Sum.inl (x.1:Int):bR)=Sum.inl (v:Int):=z;injection this with this;omega)),ih]
   exact decide_eq_decide.mpr (by rw [List.map_cons,List.mem_cons];exact⟨.inr,fun z=>z.resolve_left fun q=>c q.symm⟩)
theorem Bn {tl:Tl} {v:Nat} {o:V} (h:v∉tl.map (·.1)):db (cL tl) (Sum.inl (v:Int)) o=cL (tl++[(v,o)]):=by
 have n:cY (cL tl) (Sum.inl (v:Int))=none:=by
  have:=AO (tl:=tl) (v:=v)
  rw [decide_eq_false h] at this
  cases e:cY (cL tl) (Sum.inl (v:Int)) with
  | none=>rfl
  | some x=>rw [e] at this;cases this
 rw [lR _ n]
 unfold cL
 rw [List.map_append]
 rfl
theorem f8:∀ {tl:Tl} {v:Nat} {o:V},(tl.map (·.1)).Nodup->(v,o)∈tl->cY (cL tl) (Sum.inl (v:Int))=some o
 | [],v,o,_,h=>nomatch h
 | x :: r,v,o,nd,h=>by
  rw [List.map_cons,List.nodup_cons] at nd
  rcases List.mem_cons.mp h with z | z
  ·subst z
   exact cT (p:=((Sum.inl (v:Int):bR),o)) rfl
  ·have ne:x.1≠v:=fun q=>nd.1 (q ▸ List.mem_map.mpr ⟨_,z,rfl⟩)
   rw [show cL (x :: r)=(Sum.inl (x.1:Int),x.2) :: cL r from rfl,cU (fun z=>ne (by have:(Sum.inl (x.1:Int):bR)=Sum.inl (v:Int):=z;injection this with this;omega))]
   exact f8 nd.2 z
def mZ (ws:List Wk) (h:Nat) (rs:List R):Prop:=rs.length=ws.length/\(∀ r∈rs,Wf 60 r)/\qy ws (fun j=>rs.getD j (0,1)) (List.range ws.length) (List.replicate 24 h)
theorem qy.congr {WS:List Wk} {f g:Nat->R} {ns fr:List Nat} (a:qy WS f ns fr):(∀ j∈ns,f j=g j)->qy WS g ns fr:=by
 induction a with
 | nil=>intro _;exact .nil
 | @step ns fr r U F h n ih=>exact fun e=>.step F (fun j hj hu=>by rw [← e j hj];exact h j hj hu) (ih fun j hj=>e j (List.mem_filter.mp hj).1)
theorem vb {ws:List Wk} {h:Nat} {rs rs':List R} (a:mZ ws h rs) (b:mZ ws h rs'):rs=rs':=by
 refine List.ext_getElem (a.1.trans b.1.symm) fun j h1 h2=>?_
 have hl:=a.1
 have:=a.2.2.uniq b.2.2 j (List.mem_range.mpr (by omega))
 rw [aq (0,1) (List.getElem?_eq_getElem h1),aq (0,1) (List.getElem?_eq_getElem h2)] at this
 exact this
structure TI (K:PySem.W.Frag) (H:Hp) (P:Hp->V->R->Prop) (ws:List Wk) (h:Nat) (tl:Tl) (f:Nat->R) (ns fr:List Nat):Prop where
 nd:(tl.map (·.1)).Nodup
 vl:∀ x∈tl,P H x.2 (f x.1)/\Wf 60 (f x.1)/\x.1 < ws.length
 cov:ns=(List.range ws.length).filter fun j=>!decide (j∈tl.map (·.1))
 rnd:∀ g,(∀ x∈tl,g x.1=f x.1)->qy ws g ns fr->qy ws g (List.range ws.length) (List.replicate 24 h)
 f24:fr.length=24
 f20:∀ x∈fr,x≤20
 pos:kZ ws ns fr
section
variable {K:PySem.W.Frag} {H H':Hp} {P:Hp->V->R->Prop} {ws:List Wk} {h:Nat} {tl:Tl} {f:Nat->R} {ns fr:List Nat}
theorem TI.mono (T:TI K H P ws h tl f ns fr) (m:∀ v r,P H v r->P H' v r):TI K H' P ws h tl f ns fr:=⟨T.nd,fun x hx=>⟨m _ _ (T.vl x hx).1,(T.vl x hx).2⟩,T.cov,T.rnd,T.f24,T.f20,T.pos⟩
theorem TI.first (h1:1≤h) (h20:h≤20) (g:∀ w∈ws,qr w):TI K H P ws h [] (fun _=>(0,1)) (List.range ws.length) (List.replicate 24 h):=by
 refine⟨List.nodup_nil,(fun x hx=>by cases hx),?_,fun g _ n=>n,List.length_replicate,fun x hx=>?_,fun j hj=>?_⟩
 ·exact (List.filter_eq_self.mpr (fun _ _=>rfl)).symm
 ·rw [(List.mem_replicate.mp hx).2];exact h20
 ·have gg:=g _ (eS (List.mem_range.mp hj))
  have w1:=gg.1
  have w2:=gg.2.1
  refine⟨(ws.getD j cC).1,by omega,fq.mpr ⟨Nat.le_refl _,w1⟩,?_⟩
  rw [aq 0 (show (List.replicate 24 h)[(ws.getD j cC).1]?=some h by rw [List.getElem?_replicate,if_pos (by omega)])]
  exact h1
theorem TI.lt (T:TI K H P ws h tl f ns fr) {j:Nat} (hj:j∈ns):j < ws.length/\j∉tl.map (·.1):=by
 rw [T.cov] at hj
 obtain⟨a,b⟩:=List.mem_filter.mp hj
 exact⟨List.mem_range.mp a,by simpa using b⟩
theorem TI.nodup (T:TI K H P ws h tl f ns fr):ns.Nodup:=by rw [T.cov];exact List.nodup_range.filter _
theorem TI.sorted (T:TI K H P ws h tl f ns fr):ns.Pairwise (· < ·):=by rw [T.cov];exact List.pairwise_lt_range.filter _
theorem TI.next (T:TI K H P ws h tl f ns fr) {r:R} {U:Nat->Bool} (F:j3 ws ns fr r U) (wf:Wf 60 r) {tl':Tl} (e:tl'.map (·.1)=ns.filter U) (vl:∀ x∈tl',P H x.2 r) (g:∀ w∈ws,qr w):TI K H P ws h (tl++tl') (fun j=>if j∈ns.filter U then r else f j) (ns.filter fun j=>!U j) (ld fr (gW ws (ns.filter U))):=by
 have old:∀ x∈tl,x.1∉ns.filter U:=fun x hx m=>(T.lt (List.mem_filter.mp m).1).2 (List.mem_map.mpr ⟨x,hx,rfl⟩)
 have new:∀ x∈tl',x.1∈ns.filter U:=fun x hx=>by rw [← e];exact List.mem_map.mpr ⟨x,hx,rfl⟩
 refine⟨?_,fun x hx=>?_,?_,fun g' ag n=>?_,kP,fun x hx=>?_,F.next T.f24 fun j hj=>?_⟩
 ·rw [List.map_append,List.nodup_append,e]
  refine⟨T.nd,T.nodup.filter _,fun a ha b hb z=>?_⟩
  subst z
  exact (T.lt (List.mem_filter.mp hb).1).2 ha
 ·rcases List.mem_append.mp hx with z | z
  ·rw [if_neg (old x z)]
   exact T.vl x z
  ·rw [if_pos (new x z)]
   exact⟨vl x z,wf,(T.lt (List.mem_filter.mp (new x z)).1).1⟩
 ·have c:=T.cov
  rw [List.map_append,e]
  rw [show (List.range ws.length).filter (fun j=>!decide (j∈tl.map (·.1)++ns.filter U))=ns.filter fun j=>!decide (j∈tl.map (·.1)++ns.filter U) by
   conv=>rhs;rw [c]
   rw [List.filter_filter]
   refine List.filter_congr fun j hj=>?_
   by_cases q:j∈tl.map (·.1)
   ·rw [decide_eq_true q,decide_eq_true (List.mem_append_left _ q),Bool.not_true,Bool.and_false]
   ·rw [decide_eq_false q,Bool.not_false,Bool.and_true]
    exact congrArg (fun b=>!b) (decide_eq_decide.mpr (by rw [← c]))]
  refine List.filter_congr fun j hj=>?_
  have nt:=(T.lt hj).2
  cases u:U j with
  | true=>rw [decide_eq_true (List.mem_append_right _ (List.mem_filter.mpr ⟨hj,u⟩))]
  | false=>rw [decide_eq_false fun m=>by
    rcases List.mem_append.mp m with z | z
    ·exact nt z
    ·rw [(List.mem_filter.mp z).2] at u;cases u]
 ·refine T.rnd g' (fun x hx=>?_) (.step F (fun j hj hu=>?_) n)
  ·rw [ag x (List.mem_append_left _ hx)]
   exact if_neg (old x hx)
  ·have m:j∈tl'.map (·.1):=by rw [e];exact List.mem_filter.mpr ⟨hj,hu⟩
   obtain⟨x,hx,rfl⟩:=List.mem_map.mp m
   rw [ag x (List.mem_append_right _ hx)]
   exact if_pos (new x hx)
 ·obtain⟨t,ht,rfl⟩:=List.mem_map.mp hx
  have ht:=List.mem_range.mp ht
  have f24:=T.f24
  have:=T.f20 (fr.getD t 0) (by rw [aq 0 (List.getElem?_eq_getElem (by omega:t < fr.length))];exact List.getElem_mem _)
  omega
 ·exact uh (g _ (eS (T.lt hj).1))
theorem TI.none (T:TI K H P ws h tl f [] fr):∀ j,j < ws.length->∃ v,(j,v)∈tl/\P H v (f j)/\Wf 60 (f j):=fun j hj=>by
 have c:=T.cov
 have m:j∈tl.map (·.1):=by
  apply Classical.byContradiction
  intro n
  have:j∈(List.range ws.length).filter fun j=>!decide (j∈tl.map (·.1)):=List.mem_filter.mpr ⟨List.mem_range.mpr hj,by rw [decide_eq_false n];rfl⟩
  rw [← c] at this
  cases this
 obtain⟨x,hx,rfl⟩:=List.mem_map.mp m
 exact⟨x.2,hx,(T.vl x hx).1,(T.vl x hx).2.1⟩
theorem TI.ok (T:TI K H P ws h tl f [] fr):mZ ws h ((List.range ws.length).map f):=by
 refine⟨by rw [List.length_map,List.length_range],fun r hr=>?_,?_⟩
 ·obtain⟨j,hj,rfl⟩:=List.mem_map.mp hr
  obtain⟨v,_,_,w⟩:=T.none j (List.mem_range.mp hj)
  exact w
 ·refine (T.rnd f (fun _ _=>rfl) .nil).congr fun j hj=>?_
  exact (aq (0,1) (by rw [List.getElem?_map,List.getElem?_range (List.mem_range.mp hj)];rfl)).symm
end
theorem lC (n:Nat):(B.upTo n).map V.int=av (List.range n):=by unfold av B.upTo;rw [List.map_map];rfl
theorem vC {ns:List Nat} (nd:ns.Nodup) (S:Nat->Bool):((List.range ns.length).filter S).map (fun p=>ns.getD p 0)=ns.filter fun j=>S (ns.idxOf j):=by rw [ny nd S];exact sS fun j=>S (ns.idxOf j)
theorem zX {WS:List Wk} {ns:List Nat} (nd:ns.Nodup) (S:Nat->Bool):gW (gW WS ns) ((List.range ns.length).filter S)=gW WS (ns.filter fun j=>S (ns.idxOf j)):=by rw [ny nd S];exact kO fun j=>S (ns.idxOf j)
theorem uk {fr:List Nat} {ws:List Wk} (h:fr.length=24) {t:Nat} (ht:t < 24):((fr.getD t 0:Nat):Int) - (((bX ws fr).getD t 0:Nat):Int)=(((ld fr ws).getD t 0:Nat):Int):=by
 have e:(bX ws fr).getD t 0=min (fr.getD t 0) (bD ws t):=aq 0 (by unfold bX;rw [List.getElem?_map,List.getElem?_range (by omega)];rfl)
 rw [um ht,e]
 omega
theorem i8 {WS:List Wk} {L:List Nat}:(gW WS L).length=L.length:=List.length_map _
theorem mw.ex {H H':Hp} {d:Addr} {k:List (bR×V)} (e:H d=some (.dK k)) (z:∀ b o,b≠d->H b=some o->H' b=some o):mw H H':=fun b o n h=>z b o (fun q=>by
 rw [q,e] at h
 injection h with h
 exact n k h.symm) h
theorem kY {P:V->R->Prop} {a:Nat->V} {b:Nat->R}:∀ {L:List Nat},(∀ i∈L,P (a i) (b i))->cQ P (L.map a) (L.map b)
 | [],_=>.nil
 | i :: L,h=>.cons (h i List.mem_cons_self) (kY fun j hj=>h j (List.mem_cons_of_mem _ hj))
theorem iy {α:Type} (l:List α):l.filter (fun _=>true)=l:=List.filter_eq_self.mpr fun _ _=>rfl
def qQ (K:PySem.W.Frag):Sp:=fun vs H Q _=>∃ (v:V) (h:Nat) (ws:List Wk),vs=[v,.int (h:Nat)]/\ii K H v ws/\qw ws/\1≤h/\h≤20/\∀ (l:Addr) (ys:List V) (rs:List R) (H':Hp),az H H'->H' l=some (.lst ys)->cQ (xz K H') ys rs->mZ ws h rs->Q (.ref l) H'
def Am (K:PySem.W.Frag) (H:Hp) (v:V) (rs:List R):Prop:=∃ p xs,v=.ref p/\bS K H p xs/\cQ (RV K H) xs rs
def iG (K:PySem.W.Frag):Sp:=fun vs H Q _=>∃ (v:V) (h:Nat) (ws:List Wk),vs=[v,.int (h:Nat)]/\ii K H v ws/\qw ws/\1≤h/\h≤20/\∀ (v':V) (rs:List R) (H':Hp),az H H'->Am K H' v' rs->mZ ws h rs->Q v' H'
def lK (_:PySem.W.Frag):Sp:=fun vs H Q _=>∃ a b:Int,vs=[.int a,.int b]/\0 < b/\b.natAbs < 2 ^ 4000/\kG H Q (cX a b)
structure cM (H:Hp) (t l:Addr):Prop where
 ex:∃ (ns:List Int) (p:Int),H t=some (.lst [.ref l,.int p])/\H l=some (.lst (ns.map V.int))/\l≠t/\0 < ns.length/\ns.length≤1000
theorem cM.lst {H:Hp} {t l:Addr} (h:cM H t l):∃ xs,H t=some (.lst xs):=let ⟨_,_,e,_⟩:=h.ex;⟨_,e⟩
theorem cM.lst' {H:Hp} {t l:Addr} (h:cM H t l):∃ xs,H l=some (.lst xs):=let ⟨_,_,_,e,_⟩:=h.ex;⟨_,e⟩
theorem cM.same {H H':Hp} {t l:Addr} (h:cM H t l) (s:az H H'):cM H' t l:=let ⟨ns,p,a,b,c⟩:=h.ex;⟨ns,p,s _ _ a,s _ _ b,c⟩
def lH (_:PySem.W.Frag):Sp:=fun vs H Q _=>∃ (t l:Addr) (m:Int),vs=[.ref t,.int m]/\cM H t l/\0 < m/\m < 1073741824/\∀ (r:Int) (xs:List V),0≤r->r < m->cM (ax H t (.lst xs)) t l->Q (.int r) (ax H t (.lst xs))
def iJ (K:PySem.W.Frag):Sp:=fun vs H Q _=>∃ (a:Addr) (ns:List Int) (k:Nat),vs=[.ref a,.int k]/\aF K H a (ns.map V.int)/\∀ z:Int,Q (.int z) H
def kf (_:PySem.W.Frag):Sp:=fun vs H Q _=>∃ (c:Int) (m:Nat),vs=[.int c,.int m]/\0 < m/\m≤1000/\∀ (l:Addr) (ns:List Int) (H':Hp),az H H'->H l=none->H' l=some (.lst (ns.map V.int))->ns.length=m->Q (.ref l) H'
def lJ (K:PySem.W.Frag):Sp:=fun vs H Q _=>∃ (v w:V) (r q:R) (n m:Nat),vs=[v,w]/\RV K H v r/\RV K H w q/\Wf n r/\Wf m q/\n+m+1≤3000/\kG H Q (bU r q)
theorem qJ {rs:List R} {i:Nat} {r:R} (h:rs[i]?=some r):dD (rs.take (i+1))=bU (dD (rs.take i)) r:=by
 unfold dD
 rw [List.take_add_one,h,List.foldl_append]
 rfl
theorem cM.keep {H H':Hp} {t l:Addr} (h:cM H t l) (h1:∀ o,H t=some o->H' t=some o) (h2:∀ o,H l=some o->H' l=some o):cM H' t l:=by
 obtain⟨ns,p,e,f,c⟩:=h.ex
 exact⟨ns,p,h1 _ e,h2 _ f,c⟩
def mr (S:List Addr) (H H':Hp):Prop:=∀ b o,b∉S->H b=some o->H' b=some o
theorem mr.trans {S:List Addr} {H H1 H2:Hp} (a:mr S H H1) (b:mr S H1 H2):mr S H H2:=fun c o n e=>b c o n (a c o n e)
theorem mr.of {S:List Addr} {H H':Hp} (z:az H H'):mr S H H':=fun b o _ e=>z b o e
theorem mr.tp {t:Addr} {H:Hp} (o:HO):mr [t] H (ax H t o):=fun b o' n e=>by rw [aj (fun z=>n (by rw [z];exact List.mem_singleton.mpr rfl))];exact e
theorem tT {a b:Int} (h1:1≤a) (h3:1≤b):0 < (cX a b).1:=vZ (by omega) (by omega)
theorem xS {i:Int} {n:Nat} (h:i.natAbs < 2 ^ n) (hn:n≤1900):Sh 0 1921 (.int i):=by
 refine⟨?_,rfl,Nat.le_refl _,zO h hn⟩
 show decide (i.natAbs.log2 < 1920)=true
 refine decide_eq_true ?_
 by_cases z:i.natAbs=0
 ·rw [z];decide
 ·exact Nat.lt_of_lt_of_le ((Nat.log2_lt z).mpr h) (by omega)
theorem A8 {i:Nat} (h:i≤100):Sh 0 1921 (.int (i:Nat)):=xS (n:=7) (by show ((i:Nat):Int).natAbs < 128;omega) (by decide)
theorem A7 {r:R} {n:Nat} (h:Wf n r) (hn:n≤1900):Sh 1 3856 (dR r):=by
 refine Sh.tup (k:=0) (n:=1921) (m:=2) (fun d hd=>?_) (Nat.le_refl _) (by decide)
 simp only [List.mem_cons,List.not_mem_nil,or_false] at hd
 rcases hd with rfl | rfl
 ·exact xS h.top hn
 ·exact xS h.bot hn
theorem jL {H H':Hp} {x:Addr} (z:az H H') (e:H' x=none):H x=none:=by
 cases q:H x with
 | none=>rfl
 | some o=>rw [z x o q] at e;cases e
theorem cQ.app {α:Type} {P:V->α->Prop}:∀ {ys:List V} {ds:List α} {zs:List V} {es:List α},cQ P ys ds->cQ P zs es->cQ P (ys++zs) (ds++es)
 | _,_,_,_,.nil,h=>h
 | _,_,_,_,.cons a t,h=>.cons a (cQ.app t h)
theorem cQ.tk {α:Type} {P:V->α->Prop}:∀ (n:Nat) {ys:List V} {ds:List α},cQ P ys ds->cQ P (ys.take n) (ds.take n)
 | 0,_,_,_=>.nil
 | _+1,_,_,.nil=>.nil
 | n+1,_,_,.cons a t=>.cons a (cQ.tk n t)
theorem jn.deep {K:PySem.W.Frag} {H:Hp} {v:V} {w:Wk} (h:jn K H v w):cb K H v (uN w):=by
 obtain⟨p,x,rfl,hS,rx⟩:=h
 exact .tup hS (.cons (.int _) (.cons (.int _) (.cons rx.deep .nil)))
theorem ii.deep {K:PySem.W.Frag} {H:Hp} {v:V} {ws:List Wk} (h:ii K H v ws):cb K H v (Ac ws):=by
 obtain⟨p,xs,rfl,hS,al⟩:=h
 exact .tup hS (al.deep fun _ _ q=>q.deep)
def ke (K:PySem.W.Frag):Sp:=fun vs H Q _=>∃ (v w:V) (r q:R) (n m:Nat),vs=[v,w]/\RV K H v r/\RV K H w q/\Wf n r/\Wf m q/\n+m≤3000/\kG H Q (bA r q)
structure Wl (K:PySem.W.Frag) (H0:Hp) (t l lw:Addr) (H:Hp) (ws:List Wk):Prop where
 st:mr [t] H0 H
 tb:cM H t l
 hw:∃ zs,H lw=some (.lst zs)/\cQ (jn K H) zs ws
 ne:lw≠t
 nl:lw≠l
 f0:H0 lw=none
 gd:∀ w∈ws,qr w
section
variable {K:PySem.W.Frag} {H0 H H':Hp} {t l lw:Addr} {ws:List Wk}
theorem Wl.same (h:Wl K H0 t l lw H ws) (z:az H H'):Wl K H0 t l lw H' ws:=by
 obtain⟨zs,e,al⟩:=h.hw
 exact⟨h.st.trans (mr.of z),h.tb.same z,⟨zs,z _ _ e,al.mono fun _ _ q=>q.mono (be.same z)⟩,h.ne,h.nl,h.f0,h.gd⟩
theorem Wl.tape (h:Wl K H0 t l lw H ws) {xs:List V} (tb:cM (ax H t (.lst xs)) t l):Wl K H0 t l lw (ax H t (.lst xs)) ws:=by
 obtain⟨zs,e,al⟩:=h.hw
 obtain⟨ys,et⟩:=h.tb.lst
 exact⟨h.st.trans (mr.tp _),tb,⟨zs,by rw [aj h.ne];exact e,al.mono fun _ _ q=>q.mono (be.up et xs)⟩,h.ne,h.nl,h.f0,h.gd⟩
theorem Wl.push (h:Wl K H0 t l lw H ws) {zs:List V} (e:H lw=some (.lst zs)) (al:cQ (jn K H) zs ws) {v:V} {w:Wk} (wv:jn K H v w) (gd:qr w):Wl K H0 t l lw (ax H lw (.lst (zs++[v]))) (ws++[w]):=by
 have t':=be.up (K:=K) e (zs++[v])
 refine⟨fun b o n q=>by rw [aj (ay q h.f0)];exact h.st b o n q,h.tb.keep (fun o q=>by rw [aj h.ne.symm];exact q) (fun o q=>by rw [aj h.nl.symm];exact q),⟨_,ae,(al.mono fun _ _ q=>q.mono t').snoc (wv.mono t')⟩,h.ne,h.nl,h.f0,fun x hx=>?_⟩
 rcases List.mem_append.mp hx with z | z
 ·exact h.gd x z
 ·rw [List.mem_singleton.mp z];exact gd
end
def Ds (K:PySem.W.Frag) (H:Hp) (v:V) (x y:Int):Prop:=∃ p,v=.ref p/\bS K H p [.int x,.int y]
theorem tU (ws:List Wk):(PyData.list (ws.map uN)).canLay0=true:=gM fun d hd=>by
 obtain⟨c,_,rfl⟩:=List.mem_map.mp hd
 rfl
theorem ux (ws:List Wk):(PyData.list (ws.map uN)).depth≤32:=by
 show PyData.depthAll (ws.map uN)+1≤32
 have:=fb (k:=2) (ds:=ws.map uN) fun d hd=>by
  obtain⟨x,hx,rfl⟩:=List.mem_map.mp hd
  exact Nat.le_refl 2
 omega
def kb (K:PySem.W.Frag):Sp:=fun vs H Q _=>∃ (t l:Addr) (mo tu:Int),vs=[.ref t,.int mo,.int tu]/\cM H t l/\0≤mo/\mo≤20/\1≤tu/\tu≤24/\∀ (v:V) (ws:List Wk) (H':Hp),mr [t] H H'->cM H' t l->ii K H' v ws->(ws.length:Int)≤mo->(∀ w∈ws,qr w)->Q v H'
theorem jF:∀ {n:Nat} {ns:List Nat},ns.length=n->∃ t,c5 ns=[] :: t/\∀ L∈t,L≠[]
 | 0,ns,h=>by
  rw [List.length_eq_zero_iff.mp h]
  exact⟨[],rfl,fun L hL=>by cases hL⟩
 | n+1,ns,h=>by
  have ne:ns≠[]:=fun z=>by rw [z] at h;cases h
  obtain⟨a,j,rfl⟩:∃ a j,ns=a++[j]:=⟨ns.dropLast,ns.getLast ne,(List.dropLast_concat_getLast ne).symm⟩
  rw [List.length_append,List.length_singleton] at h
  obtain⟨t,e,q⟩:=jF (n:=n) (ns:=a) (by omega)
  refine⟨t++([] :: t).map (·++[j]),by rw [fk,e];rfl,fun L hL=>?_⟩
  rcases List.mem_append.mp hL with z | z
  ·exact q L z
  ·obtain⟨M,_,rfl⟩:=List.mem_map.mp z
   exact fun z=>by cases M <;> cases z
theorem iO:∀ {n:Nat} {ns:List Nat},ns.length=n->(c5 ns).length=2 ^ n
 | 0,ns,h=>by rw [List.length_eq_zero_iff.mp h];rfl
 | n+1,ns,h=>by
  have ne:ns≠[]:=fun z=>by rw [z] at h;cases h
  obtain⟨a,j,rfl⟩:∃ a j,ns=a++[j]:=⟨ns.dropLast,ns.getLast ne,(List.dropLast_concat_getLast ne).symm⟩
  rw [List.length_append,List.length_singleton] at h
  rw [fk,List.length_append,List.length_map,iO (n:=n) (ns:=a) (by omega)]
  omega
theorem fR {L ns:List Nat} (nd:ns.Nodup) (h:L.Sublist ns):ns.filter (fun j=>decide (j∈L))=L:=by
 induction h with
 | slnil=>rfl
 | @cons l ns a h ih=>
  rw [List.nodup_cons] at nd
  rw [List.filter_cons_of_neg (by rw [decide_eq_true_iff];exact fun z=>nd.1 (h.subset z))]
  exact ih nd.2
 | @cons_cons l ns a h ih=>
  rw [List.nodup_cons] at nd
  rw [List.filter_cons_of_pos (by rw [decide_eq_true_iff];exact List.mem_cons_self)]
  congr 1
  refine Eq.trans (List.filter_congr fun j hj=>?_) (ih nd.2)
  refine decide_eq_decide.mpr ⟨fun z=>?_,fun z=>List.mem_cons_of_mem _ z⟩
  rcases List.mem_cons.mp z with q | q
  ·exact absurd (q ▸ hj) nd.1
  ·exact q
def CF (r:R) (n:Int):R:=cX (r.1 * 1) (r.2 * n)
def ig (ws:List Wk) (L:List Nat):R:=dD ((gW ws L).map fun w=>w.2.2)
structure mz (ws:List Wk) (fr:List Nat) (Ls:List (List Nat)) (sw:R) (fd:List Nat):Prop where
 rd:eQ sw
 nn:0≤val sw
 wf:Wf 60 sw
 all:∀ L∈Ls,dA (gW ws L)≤val sw * ((bi (gW ws L) fr:Nat):Rat)
 mem:∀ j,j∈fd↔∃ L∈Ls,j∈L/\dA (gW ws L)=val sw * ((bi (gW ws L) fr:Nat):Rat)
 atn:(Ls=[]/\val sw=0)∨∃ L∈Ls,dA (gW ws L)=val sw * ((bi (gW ws L) fr:Nat):Rat)
 len:fd.length≤6 * Ls.length
theorem zY {ws:List Wk} {fr:List Nat}:mz ws fr [] (0,1) []:=by
 have e:val ((0,1):R)=0:=(lB (r:=(0,1)) (by decide)).mpr rfl
 exact⟨lv,by rw [e];exact Rat.le_refl,uP.mono (by decide),(fun L hL=>by cases hL),fun j=>⟨fun h=>(by cases h),fun⟨L,h,_⟩=>(by cases h)⟩,.inl ⟨rfl,e⟩,Nat.le_refl _⟩
structure Al (ws:List Wk) (fr:List Nat) (L:List Nat):Prop where
 gd:∀ w∈gW ws L,qr w
 ne:L≠[]
 len:L.length≤6
 bz:0 < bi (gW ws L) fr
 f24:fr.length=24
theorem wC {ws:List Wk} {fr:List Nat}:CF (dD (ws.map fun w=>w.2.2)) (bi ws fr:Int)=bH ws fr:=by
 unfold CF bH bA
 rfl
theorem o6 {ws:List Wk} {fr:List Nat} {L:List Nat} (S:Al ws fr L):eQ (ig ws L)/\val (ig ws L)=dA (gW ws L)/\Bq 84 72 (ig ws L):=by
 obtain⟨a,b⟩:=uE (ws:=gW ws L) fun w hw=>(S.gd w hw).2.2.1.red
 refine⟨a,b,(ip (D:=84) (N:=12) (by decide) fun r hr=>?_).mono (Nat.dvd_refl _) ?_⟩
 ·obtain⟨w,hw,rfl⟩:=List.mem_map.mp hr
  exact (S.gd w hw).2.2.1
 ·rw [List.length_map,i8]
  have:=S.len
  omega
theorem ue {a s:R} {b:Nat} (ha:0 < a.2) (hs:0 < s.2):a.1 * s.2 > s.1 * (b:Int) * a.2↔val s * ((b:Nat):Rat) < val a:=by
 have x1:(0:Rat) < ((a.2:Int):Rat):=io ha
 have x2:(0:Rat) < ((s.2:Int):Rat):=io hs
 unfold val
 rw [Rat.lt_div_iff x1]
 have e:((s.1:Int):Rat) / ((s.2:Int):Rat) * ((b:Nat):Rat) * ((a.2:Int):Rat)=(((s.1:Int):Rat) * ((b:Nat):Rat) * ((a.2:Int):Rat)) / ((s.2:Int):Rat):=by
  have:=cH hs
  generalize ((s.1:Int):Rat)=x at *
  generalize ((s.2:Int):Rat)=y at *
  grind
 rw [e,Rat.div_lt_iff x2]
 have:s.1 * (b:Int) * a.2 < a.1 * s.2↔((s.1 * (b:Int) * a.2:Int):Rat) < ((a.1 * s.2:Int):Rat):=Rat.intCast_lt_intCast.symm
 rw [Rat.intCast_mul,Rat.intCast_mul,Rat.intCast_mul,Rat.intCast_natCast] at this
 exact this
theorem xI {b:Nat}:val (((b:Nat):Int),1)=((b:Nat):Rat):=by
 unfold val
 show (((b:Nat):Int):Rat) / ((1:Int):Rat)=_
 rw [Rat.intCast_natCast]
 show ((b:Nat):Rat) / 1=_
 grind
section
variable {ws:List Wk} {fr:List Nat} {Ls:List (List Nat)} {L:List Nat} {sw:R} {fd:List Nat}
theorem mz.rise (F:mz ws fr Ls sw fd) (S:Al ws fr L) (bz:∀ L∈Ls,0 < bi (gW ws L) fr) (h:(ig ws L).1 * sw.2 > sw.1 * (bi (gW ws L) fr:Int) * (ig ws L).2):eQ (bH (gW ws L) fr)/\Wf 60 (bH (gW ws L) fr)/\0≤val (bH (gW ws L) fr)/\val (bH (gW ws L) fr) * ((bi (gW ws L) fr:Nat):Rat)=dA (gW ws L)/\∀ M∈Ls,dA (gW ws M) < val (bH (gW ws L) fr) * ((bi (gW ws M) fr:Nat):Rat):=by
 obtain⟨rd,ev,_⟩:=o6 S
 have gl:(gW ws L).length≤6:=by rw [i8];exact S.len
 have gn:gW ws L≠[]:=fun z=>S.ne (List.map_eq_nil_iff.mp z)
 have b144:=uB (ws:=gW ws L) S.f24 gl
 obtain⟨p1,p2,p3⟩:=oI S.f24 S.gd gl S.bz gn
 have b0:=S.bz
 have b':(0:Rat) < ((bi (gW ws L) fr:Nat):Rat):=Rat.natCast_pos.mpr S.bz
 have lt:=(ue rd.pos F.rd.pos).mp h
 rw [ev,← p3] at lt
 have slt:val sw < val (bH (gW ws L) fr):=by
  apply Classical.byContradiction
  intro z
  have:=Rat.mul_le_mul_of_nonneg_right (Rat.not_lt.mp z) (Rat.le_of_lt b')
  grind
 have sn:=F.nn
 refine⟨p1.red,p1.wf (by omega) (by omega) (by omega),by grind,p3,fun M hM=>?_⟩
 have a:=F.all M hM
 have bM:(0:Rat) < ((bi (gW ws M) fr:Nat):Rat):=Rat.natCast_pos.mpr (bz M hM)
 have:=Rat.mul_lt_mul_of_pos_right slt bM
 grind
theorem mz.up (F:mz ws fr Ls sw fd) (S:Al ws fr L) (bz:∀ L∈Ls,0 < bi (gW ws L) fr) (h:(ig ws L).1 * sw.2 > sw.1 * (bi (gW ws L) fr:Int) * (ig ws L).2):mz ws fr (Ls++[L]) (bH (gW ws L) fr) L:=by
 obtain⟨a,b,c,d,e⟩:=F.rise S bz h
 refine⟨a,c,b,fun M hM=>?_,fun j=>⟨fun hj=>⟨L,List.mem_append_right _ (List.mem_singleton.mpr rfl),hj,d.symm⟩,fun⟨M,hM,hj,q⟩=>?_⟩,.inr ⟨L,List.mem_append_right _ (List.mem_singleton.mpr rfl),d.symm⟩,?_⟩
 ·rcases List.mem_append.mp hM with z | z
  ·exact Rat.le_of_lt (e M z)
  ·rw [List.mem_singleton.mp z,d];exact Rat.le_refl
 ·rcases List.mem_append.mp hM with z | z
  ·have:=e M z
   grind
  ·rw [← List.mem_singleton.mp z];exact hj
 ·rw [List.length_append,List.length_singleton]
  have:=S.len
  omega
theorem mz.on (F:mz ws fr Ls sw fd) (S:Al ws fr L) (h:¬ (ig ws L).1 * sw.2 > sw.1 * (bi (gW ws L) fr:Int) * (ig ws L).2) (q:dA (gW ws L)=val sw * ((bi (gW ws L) fr:Nat):Rat)):mz ws fr (Ls++[L]) sw (fd++L):=by
 refine⟨F.rd,F.nn,F.wf,fun M hM=>?_,fun j=>⟨fun hj=>?_,fun⟨M,hM,hj,e⟩=>?_⟩,.inr ⟨L,List.mem_append_right _ (List.mem_singleton.mpr rfl),q⟩,?_⟩
 ·rcases List.mem_append.mp hM with z | z
  ·exact F.all M z
  ·rw [List.mem_singleton.mp z,q];exact Rat.le_refl
 ·rcases List.mem_append.mp hj with z | z
  ·obtain⟨M,a,b⟩:=(F.mem j).mp z
   exact⟨M,List.mem_append_left _ a,b⟩
  ·exact⟨L,List.mem_append_right _ (List.mem_singleton.mpr rfl),z,q⟩
 ·rcases List.mem_append.mp hM with z | z
  ·exact List.mem_append_left _ ((F.mem j).mpr ⟨M,z,hj,e⟩)
  ·exact List.mem_append_right _ (by rw [← List.mem_singleton.mp z];exact hj)
 ·rw [List.length_append,List.length_append,List.length_singleton]
  have:=S.len
  have:=F.len
  omega
theorem mz.off (F:mz ws fr Ls sw fd) (S:Al ws fr L) (h:¬ (ig ws L).1 * sw.2 > sw.1 * (bi (gW ws L) fr:Int) * (ig ws L).2) (q:dA (gW ws L)≠val sw * ((bi (gW ws L) fr:Nat):Rat)):mz ws fr (Ls++[L]) sw fd:=by
 obtain⟨rd,ev,_⟩:=o6 S
 have le:dA (gW ws L)≤val sw * ((bi (gW ws L) fr:Nat):Rat):=by
  rw [ue rd.pos F.rd.pos,ev] at h
  exact Rat.not_lt.mp h
 refine⟨F.rd,F.nn,F.wf,fun M hM=>?_,fun j=>⟨fun hj=>?_,fun⟨M,hM,hj,e⟩=>?_⟩,?_,?_⟩
 ·rcases List.mem_append.mp hM with z | z
  ·exact F.all M z
  ·rw [List.mem_singleton.mp z];exact le
 ·obtain⟨M,a,b⟩:=(F.mem j).mp hj
  exact⟨M,List.mem_append_left _ a,b⟩
 ·rcases List.mem_append.mp hM with z | z
  ·exact (F.mem j).mpr ⟨M,z,hj,e⟩
  ·rw [List.mem_singleton.mp z] at e
   exact absurd e q
 ·rcases F.atn with ⟨_,z⟩ | ⟨M,a,b⟩
  ·exfalso
   have ap:0 < dA (gW ws L):=by
    have gn:gW ws L≠[]:=fun z=>S.ne (List.map_eq_nil_iff.mp z)
    have hp:=nT (WS:=gW ws L) (ns:=List.range (gW ws L).length) (S:=fun _=>true) (j:=0) (fun j hj=>uh (S.gd _ (eS (List.mem_range.mp hj)))) (List.mem_range.mpr (List.length_pos_iff.mpr gn)) rfl
    rw [iy,ui] at hp
    exact hp
   rw [z,Rat.zero_mul] at le
   grind
  ·exact .inr ⟨M,List.mem_append_left _ a,b⟩
 ·rw [List.length_append,List.length_singleton]
  have:=F.len
  omega
end
theorem pD {ws:List Wk} {fr:List Nat} {L:List Nat} {sw:R} (S:Al ws fr L) (hs:eQ sw):ig ws L=bA sw (((bi (gW ws L) fr:Nat):Int),1)↔dA (gW ws L)=val sw * ((bi (gW ws L) fr:Nat):Rat):=by
 obtain⟨rd,ev,_⟩:=o6 S
 have rb:eQ ((((bi (gW ws L) fr:Nat):Int),1):R):=⟨Int.one_pos,by show Int.gcd _ 1=1;exact Int.gcd_one⟩
 have vt:=jB hs.pos rb.pos
 rw [xI] at vt
 rw [← ev,← vt]
 exact⟨fun h=>by rw [← h],fun h=>j6 rd (pB hs rb) h⟩
theorem mz.fst {ws:List Wk} {fr ns:List Nat} {sw:R} {fd:List Nat} {t:List (List Nat)} (nd:ns.Nodup) (f24:fr.length=24) (pos:kZ ws ns fr) (n0:ns≠[]) (e:c5 ns=[] :: t) (q:∀ L∈t,L≠[]) (F:mz ws fr t sw fd):j3 ws ns fr sw fun j=>decide (j∈fd):=by
 have sub:∀ L∈t,L.Sublist ns:=fun L hL=>(cI rfl).mp (by rw [e];exact List.mem_cons_of_mem _ hL)
 have inn:∀ S:Nat->Bool,ns.filter S≠[]->ns.filter S∈t:=fun S h=>by
  have m:ns.filter S∈c5 ns:=(cI rfl).mpr List.filter_sublist
  rw [e] at m
  exact (List.mem_cons.mp m).resolve_left h
 have tn:t≠[]:=fun z=>by
  have:=inn (fun _=>true) (by rw [iy];exact n0)
  rw [z] at this
  cases this
 refine⟨F.rd,F.nn,?_,fun S=>?_,fun j hj=>?_⟩
 ·rcases F.atn with ⟨z,_⟩ | ⟨L,hL,h⟩
  ·exact absurd z tn
  ·have ef:=fR nd (sub L hL)
   refine⟨fun j=>decide (j∈L),?_,by rw [ef];exact h⟩
   cases L with
   | nil=>exact absurd rfl (q _ hL)
   | cons i L=>exact kA (S:=fun j=>decide (j∈i :: L)) f24 pos ((sub _ hL).subset List.mem_cons_self) (decide_eq_true List.mem_cons_self)
 ·by_cases c:ns.filter S=[]
  ·rw [c]
   show (0:Rat)≤val sw * ((bi [] fr:Nat):Rat)
   rw [nP f24]
   show (0:Rat)≤val sw * 0
   rw [Rat.mul_zero]
   exact Rat.le_refl
  ·exact F.all _ (inn S c)
 ·rw [decide_eq_true_iff,F.mem]
  constructor
  ·rintro⟨L,hL,hj',h⟩
   exact⟨fun j=>decide (j∈L),decide_eq_true hj',by rw [fR nd (sub L hL)];exact h⟩
  ·rintro⟨S,hs,h⟩
   have m:j∈ns.filter S:=List.mem_filter.mpr ⟨hj,hs⟩
   exact⟨_,inn S (fun z=>by rw [z] at m;cases m),m,h⟩
theorem iK:∀ {a b:List Int},a.Pairwise (· < ·)->b.Pairwise (· < ·)->(∀ z,z∈a↔z∈b)->a=b
 | [],[],_,_,_=>rfl
 | [],y :: b,_,_,h=>absurd ((h y).mpr List.mem_cons_self) (by simp)
 | x :: a,[],_,_,h=>absurd ((h x).mp List.mem_cons_self) (by simp)
 | x :: a,y :: b,ha,hb,h=>by
  rw [List.pairwise_cons] at ha hb
  have e:x=y:=by
   rcases List.mem_cons.mp ((h x).mp List.mem_cons_self) with z | z
   ·exact z
   ·rcases List.mem_cons.mp ((h y).mpr List.mem_cons_self) with w | w
    ·exact w.symm
    ·have:=hb.1 x z
     have:=ha.1 y w
     omega
  subst e
  congr 1
  refine iK ha.2 hb.2 fun z=>⟨fun q=>?_,fun q=>?_⟩
  ·rcases List.mem_cons.mp ((h z).mp (List.mem_cons_of_mem _ q)) with w | w
   ·have:=ha.1 z q
    omega
   ·exact w
  ·rcases List.mem_cons.mp ((h z).mpr (List.mem_cons_of_mem _ q)) with w | w
   ·have:=hb.1 z q
    omega
   ·exact w
theorem uW {ns fd:List Nat} {ms:List Int} (sr:ns.Pairwise (· < ·)) (sb:∀ j∈fd,j∈ns) (hp:ms.Perm (bG (fd.map fun n:Nat=>(n:Int)))) (hs:ms.Pairwise (·≤·)):ms.map V.int=av (ns.filter fun j=>decide (j∈fd)):=by
 have nd:ms.Nodup:=hp.nodup_iff.mpr (fK _)
 have s1:ms.Pairwise (· < ·):=(hs.and nd).imp fun⟨a,b⟩=>Int.lt_iff_le_and_ne.mpr ⟨a,b⟩
 have s2:((ns.filter fun j=>decide (j∈fd)).map fun n:Nat=>(n:Int)).Pairwise (· < ·):=by
  rw [List.pairwise_map]
  exact (sr.filter _).imp fun h=>Int.ofNat_lt.mpr h
 have e:ms=(ns.filter fun j=>decide (j∈fd)).map fun n:Nat=>(n:Int):=by
  refine iK s1 s2 fun z=>?_
  rw [hp.mem_iff,g5]
  constructor
  ·intro h
   obtain⟨j,hj,rfl⟩:=List.mem_map.mp h
   exact List.mem_map.mpr ⟨j,List.mem_filter.mpr ⟨sb j hj,decide_eq_true hj⟩,rfl⟩
  ·intro h
   obtain⟨j,hj,rfl⟩:=List.mem_map.mp h
   exact List.mem_map.mpr ⟨j,of_decide_eq_true (List.mem_filter.mp hj).2,rfl⟩
 rw [e,gx]
theorem w8 {r:R} (h:Bq 84 256 r):Wf 800 r:=h.wf (by decide) (by decide) (by decide)
def pH (K:PySem.W.Frag):Sp:=fun vs H Q _=>∃ (v w:V) (r:R) (z:Int),vs=[v,w]/\RV K H v r/\RV K H w (z,1)/\Wf 60 r/\0 < z/\z≤200/\kG H Q (CF r z)
def kd (K:PySem.W.Frag):Sp:=fun vs H Q _=>∃ (a:Addr) (xs:List V) (rs:List R),vs=[.ref a]/\aF K H a xs/\cQ (RV K H) xs rs/\(∀ r∈rs,Bq 84 12 r)/\rs.length≤20/\∀ (v':V) (H':Hp),az H H'->RV K H' v' (dD rs)->Q v' H'
def lM (K:PySem.W.Frag):Sp:=fun vs H Q _=>∃ (v:V) (a b:Addr) (ws:List Wk) (L fr:List Nat),vs=[v,.ref a,.ref b]/\ii K H v ws/\aF K H a (av L)/\L.length≤20/\(∀ j∈L,j < ws.length)/\aF K H b (av fr)/\fr.length=24/\∀ (l:Addr) (H':Hp),az H H'->H l=none->H' l=some (.lst (av (bX (gW ws L) fr)))->Q (.ref l) H'
def Cg (H:Hp) (v:V) (L:List Nat):Prop:=∃ p,v=.ref p/\H p=some (.lst (av L))
theorem Cg.same {H H':Hp} {v:V} {L:List Nat} (h:Cg H v L) (s:az H H'):Cg H' v L:=let ⟨p,e,q⟩:=h;⟨p,e,s _ _ q⟩
def lI (K:PySem.W.Frag):Sp:=fun vs H Q _=>∃ (a:Addr) (ns:List Nat),vs=[.ref a]/\aF K H a (av ns)/\ns.length≤6/\∀ (l:Addr) (ys:List V) (t:List (List Nat)) (H':Hp),az H H'->H' l=some (.lst ys)->cQ (Cg H') ys t->c5 ns=[] :: t->(∀ L∈t,L≠[])->Q (.ref l) H'
def iI (K:PySem.W.Frag):Sp:=fun vs H Q _=>∃ (v:V) (a b:Addr) (ws:List Wk) (ns fr:List Nat),vs=[v,.ref a,.ref b]/\ii K H v ws/\qw ws/\aF K H a (av ns)/\ns≠[]/\ns.Pairwise (· < ·)/\(∀ j∈ns,j < ws.length)/\aF K H b (av fr)/\fr.length=24/\kZ ws ns fr/\∀ (q l:Addr) (vr:V) (r:R) (U:Nat->Bool) (H':Hp),az H H'->bS K H' q [vr,.ref l]->RV K H' vr r->H' l=some (.lst (av (ns.filter U)))->j3 ws ns fr r U->Wf 60 r->Q (.ref q) H'
def jp (K:PySem.W.Frag):Sp:=fun vs H Q _=>∃ (v:V) (h:Nat) (ws:List Wk),vs=[v,.int (h:Nat)]/\ii K H v ws/\qw ws/\1≤h/\h≤20/\∀ (v':V) (rs:List R) (H':Hp),az H H'->Am K H' v' rs->mZ ws h rs->Q v' H'
theorem tG {ns fd:List Nat} (nd:ns.Nodup) (sb:∀ j∈fd,j∈ns):(bG (fd.map fun n:Nat=>(n:Int))).length≤ns.length:=by
 have p:(bG (fd.map fun n:Nat=>(n:Int))).Perm ((ns.filter fun j=>decide (j∈fd)).map fun n:Nat=>(n:Int)):=by
  refine (List.perm_ext_iff_of_nodup (fK _) ?_).mpr fun z=>?_
  ·unfold List.Nodup
   rw [List.pairwise_map]
   exact (nd.filter _).imp fun h z=>h (by omega)
  ·rw [g5]
   constructor
   ·intro h
    obtain⟨j,hj,rfl⟩:=List.mem_map.mp h
    exact List.mem_map.mpr ⟨j,List.mem_filter.mpr ⟨sb j hj,decide_eq_true hj⟩,rfl⟩
   ·intro h
    obtain⟨j,hj,rfl⟩:=List.mem_map.mp h
    exact List.mem_map.mpr ⟨j,of_decide_eq_true (List.mem_filter.mp hj).2,rfl⟩
 rw [p.length_eq,List.length_map]
 exact List.length_filter_le _ _
theorem B5 {b:Nat} (h:b≤200):Wf 8 (((b:Nat):Int),1):=⟨Int.one_pos,by show ((b:Nat):Int).natAbs < 256;omega,by show (1:Int).natAbs < 2 ^ 8;decide,by show Int.gcd _ 1=1;exact Int.gcd_one⟩
theorem me {K:PySem.W.Frag} {H:Hp}:∀ ns:List Nat,bb K H (av ns) (ns.map fun n:Nat=>PyData.int (n:Int))
 | []=>.nil
 | n :: ns=>.cons (.int _) (me ns)
theorem v2 (ns:List Nat):(PyData.list (ns.map fun n:Nat=>PyData.int (n:Int))).canLay0=true:=gM fun d hd=>by
 obtain⟨c,_,rfl⟩:=List.mem_map.mp hd
 rfl
theorem wx (ns:List Nat):(PyData.list (ns.map fun n:Nat=>PyData.int (n:Int))).depth≤32:=by
 show PyData.depthAll (ns.map fun n:Nat=>PyData.int (n:Int))+1≤32
 have:=fb (k:=0) (ds:=ns.map fun n:Nat=>PyData.int (n:Int)) fun d hd=>by
  obtain⟨x,hx,rfl⟩:=List.mem_map.mp hd
  exact Nat.le_refl 0
 omega
theorem uo (ns:List Nat):(av ns).all gz=true:=List.all_eq_true.mpr fun x hx=>by
 obtain⟨n,_,rfl⟩:=List.mem_map.mp hx
 rfl
theorem Am.mono {K:PySem.W.Frag} {H H':Hp} {v:V} {rs:List R} (h:Am K H v rs) (t:be K H H'):Am K H' v rs:=let ⟨p,xs,e,s,al⟩:=h;⟨p,xs,e,t _ _ s,al.mono fun _ _ z=>z.mono t⟩
theorem Am.deep {K:PySem.W.Frag} {H:Hp} {v:V} {rs:List R} (h:Am K H v rs):cb K H v (.tuple (rs.map dR)):=let ⟨_,_,e,s,al⟩:=h;e ▸ .tup s (al.deep fun _ _ z=>z.deep)
theorem wY {ws:List Wk} {h:Nat} {rs:List R} (g:qw ws) (o:mZ ws h rs):ph (.tuple (rs.map dR)):=by
 have l:=o.1
 have g6:=g.len
 refine Sh.shows (k:=2) (n:=30000) ((Sh.tup (k:=1) (n:=3856) (m:=6) (N:=24000) (fun d hd=>?_) (by rw [List.length_map];omega) (by decide)).mono (by decide) (by decide)) (by decide) (by decide)
 obtain⟨r,hr,rfl⟩:=List.mem_map.mp hd
 exact A7 (o.2.1 r hr) (by decide)
theorem wX {ws:List Wk} (o:qw ws):ph (Ac ws):=by
 refine Sh.shows (k:=4) (n:=3710192) ((Sh.tup (k:=2) (n:=12000) (m:=20) (N:=300000) (fun d hd=>?_) (by rw [List.length_map];have:=o.len;omega) (by decide)).mono (by decide) (by decide)) (by decide) (by decide)
 obtain⟨w,hw,rfl⟩:=List.mem_map.mp hd
 obtain⟨w1,w2,wb,_⟩:=o.gd w hw
 refine Sh.tup (k:=1) (n:=3856) (m:=3) (fun d hd=>?_) (Nat.le_refl _) (by decide)
 simp only [List.mem_cons,List.not_mem_nil,or_false] at hd
 rcases hd with rfl | rfl | rfl
 ·exact (A8 (by omega)).mono (by decide) (by decide)
 ·exact (A8 (by omega)).mono (by decide) (by decide)
 ·exact A7 (wb.wf (n:=20) (by decide) (by decide) (by decide)) (by decide)
def kg (K:PySem.W.Frag):Sp:=fun vs H Q _=>∃ (a:Addr) (ns:List Int),vs=[.ref a]/\aF K H a (ns.map V.int)/\ns.length≤63/\∀ H',Q (.bl true) H'
theorem jH:aI ["one", "other", "high", "low", "rest"] ["one", "other"] (au yk):=eN
theorem mV:aI ["top", "bottom", "shared"] ["top", "bottom"] (au rj):=eN
theorem km:aI ["one", "other", "shared", "top", "rest"] ["one", "other"] (au rc):=eN
theorem mU:aI ["one", "other", "left", "right"] ["one", "other"] (au rh):=eN
theorem xV:aI ["one", "other"] ["one", "other"] (au qZ):=eN
theorem fV:aI ["some", "tops", "one", "so_far", "bottom", "top"] ["some"] (au rg):=eN
theorem kr:aI ["some", "bottom", "one"] ["some"] (au rT):=eN
theorem ya:aI ["work", "turn"] ["work", "turn"] (au rN):=eN
theorem yb:aI ["works", "free"] ["works", "free"] (au rP):=eN
theorem xU:aI ["works", "free"] ["works", "free"] (au qY):=eN
theorem jG:aI ["works", "free", "group", "speed", "pouring", "sources"] ["works", "free"] (au yj):=eN
theorem cN:aI ["works", "hands", "told", "numbers", "free", "staying", "tightest", "speed", "pouring", "tight", "place", "busy"] ["works", "hands"] (au re):=eN
theorem yd:aI ["works", "hands"] ["works", "hands"] (au rS):=eN
theorem yc:aI ["_law_script", "_law_k"] ["_law_script", "_law_k"] (au rR):=eN
theorem eV:aI ["_law_cell", "_law_many", "_law_found", "_law_number", "_law_mixed", "_law_k"] ["_law_cell", "_law_many"] (au rM):=eN
theorem xY:aI ["_law_tape", "_law_many"] ["_law_tape", "_law_many"] (au rH):=eN
theorem mW:aI ["_law_top", "_law_bottom", "_law_one", "_law_other"] ["_law_top", "_law_bottom"] (au rD):=eN
theorem xX:aI ["_law_one", "_law_other"] ["_law_one", "_law_other"] (au rC):=eN
theorem xZ:aI ["_law_one", "_law_other"] ["_law_one", "_law_other"] (au rL):=eN
theorem xW:aI ["_law_one", "_law_other"] ["_law_one", "_law_other"] (au rp):=eN
theorem kq:aI ["_law_some", "_law_found", "_law_one"] ["_law_some"] (au rK):=eN
theorem dj:aI ["_law_tape", "_law_most", "_law_turns", "_law_works_here", "_law_k", "_law_way", "_law_first", "_law_last", "_law_amount"] ["_law_tape", "_law_most", "_law_turns"] (au rJ):=eN
theorem ko:aI ["_law_works_here", "_law_some", "_law_rooms", "_law_found", "_law_turn", "_law_many"] ["_law_works_here", "_law_some", "_law_rooms"] (au rA):=eN
theorem kn:aI ["_law_stay", "_law_found", "_law_j"] ["_law_stay"] (au rq):=eN
theorem em:aI ["_law_works_here", "_law_stay", "_law_rooms", "_law_swift", "_law_found", "_law_some", "_law_busy_here", "_law_amount"] ["_law_works_here", "_law_stay", "_law_rooms"] (au rQ):=eN
theorem dE:aI ["_law_works_here", "_law_hands", "_law_rooms", "_law_stay", "_law_speeds_here", "_law_swift", "_law_some", "_law_busy_here", "_law_j"] ["_law_works_here", "_law_hands"] (au rO):=eN
theorem eh:aI ["_law_script", "_law_k", "_law_tape", "_law_works_here", "_law_hands", "_law_due", "_law_kept_one", "_law_turn"] ["_law_script"] (au qX):=eN
theorem wZ:aI ["self", "works", "free", "speed", "parts"] ["self", "works", "free", "speed"] (au ye):=eN
theorem qV:aI ["self", "node", "count", "work"] ["self", "node"] (au yf):=eN
theorem gU:aI ["self", "numbers", "sources", "row", "number", "place", "source", "node"] ["self", "numbers"] (au yh):=eN
theorem xb:aI ["self", "sources", "count"] ["self", "sources"] (au yi):=eN
theorem Ba:aI ["self", "number"] ["self", "number"] (au yn):=eN
theorem iP:aI ["self", "sources", "turn", "count", "way", "bounds", "place", "amount"] ["self", "sources", "turn"] (au ym):=eN
theorem xc:aI ["self", "source", "node", "count"] ["self", "source", "node"] (au yo):=eN
theorem qW:aI ["self", "source", "node", "amount", "count"] ["self", "source", "node", "amount"] (au rW):=eN
theorem mX:aI ["self", "sources", "ends"] ["self"] (au rV):=eN
theorem w9:aI ["self", "number", "work"] ["self", "number"] (au yg):=eN
end My
namespace My
open PySem L2 B PyProof.Rows
section
variable {P:Program} {w:World} {K:PySem.W.Frag} {mg:Str->Option Value} {base:Heap} {t:Ad}
theorem jK (T:eK K mg t):bh P w K mg base dC 1 t.a_Q3 t.d_Q3 ["one", "other"] (fH K):=by
 refine T.F_Q3.ok jH (fun vs H Q E h=>?_) (fun cdv A outer s H vs Q E hr h=>?_)
 ·obtain⟨_,_,rfl,_⟩:=h;rfl
 obtain⟨a,b,rfl,k⟩:=h
 refine df.ok (ac (bT 2 jH.nd (aD je (by rfl) T.z_abs boot_abs (aa (qv 0) af ad)))
   (ac (bT 3 jH.nd (aD je (by rfl) T.z_abs boot_abs (aa (qv 1) af ad)))
   (ac (cV PassesOwn.never (aN tE (qv 3) ah (aV _))
   (ac (bT 4 jH.nd (aA eA (qv 2) (qv 3)))
   (ac (bT 2 jH.nd (qv 3))
   (ak (bT 3 jH.nd (qv 4))))))
   (ak (aT (qv 2)))))) ?_
 extract_lets +lift
 try dsimp -zeta -zetaDelta only [Cx.nox,Cx.wish,bO]
 refine⟨_,rfl,_,rfl,_,rfl,_,rfl,?_⟩
 rw [nV,nV]
 refine⟨fun m σ H'=>∃ (x y:Int) (v:Option V),σ=[some (.int a),some (.int b),some (.int x),some (.int y),v]/\H'=H/\0≤x/\0≤y/\Int.gcd x y=Int.gcd a b/\m=y.toNat,⟨_,_,_,_,rfl,rfl,by omega,by omega,(by simp [Int.gcd]),rfl⟩,?_⟩
 rintro m σ H' ⟨x,y,v,rfl,rfl,hx,hy,hg,rfl⟩
 refine⟨_,rfl,rfl,_,rfl,?_⟩
 by_cases c:y=0
 ·subst c
  refine tZ rfl ?_
  rw [← hg] at k
  refine⟨_,rfl,?_⟩
  have e:(x:Int)=(Int.gcd x 0:Nat):=by simp [Int.gcd];omega
  rw [← e] at k
  exact k
 ·refine BO (fun z=>c (by injection z)) ?_
  refine⟨_,fun _ _ z=>z,?_⟩
  refine⟨_,rfl,_,rfl,_,_,rfl,rfl,(by omega),_,rfl,_,rfl,?_⟩
  refine⟨_,?_,y,x % y,_,rfl,rfl,hy,Int.emod_nonneg _ c,?_,rfl⟩
  ·have:=Int.emod_lt_of_pos x (show 0 < y by omega)
   have:=Int.emod_nonneg x c
   omega
  ·rw [l8 hx (by omega),hg]
theorem nC (T:eK K mg t):bh P w K mg base dC 2 t.a_Q31 t.d_Q31 ["top", "bottom"] (qP K):=by
 refine T.F_Q31.ok mV (fun vs H Q E h=>?_) (fun cdv A outer s H vs Q E hr h=>?_)
 ·obtain⟨_,_,rfl,_⟩:=h;rfl
 obtain⟨a,b,rfl,hb,hz,k⟩:=h
 refine df.ok (ac (cE (aN gZ (qv 1) ah (aV _)) (ak lP) bK)
   (ac (bT 2 mV.nd (dr (jK T) hr T.m_Q3 T.F_Q3.kp T.b_Q3 (aa (qv 0) (aa (qv 1) af ad) ad)))
   (ac (cE (aN jJ (qv 1) ah (aV _)) (ak (bT 2 mV.nd (lQ iD (qv 2)))) bK)
   (ak (aT (cF (aa (aA cz (qv 0) (qv 2)) (aa (aA cz (qv 1) (qv 2)) af aP) aP))))))) ?_
 extract_lets +lift
 try dsimp -zeta -zetaDelta only [Cx.nox,Cx.wish,bO]
 have gp:=bo (a:=a) hb
 have gb:((Int.gcd a b:Nat):Int).natAbs < 2 ^ 4000:=by
  have z:Int.gcd a b≤b.natAbs:=Nat.le_of_dvd (by omega) (by have:=Int.gcd_dvd_right a b;exact Int.natAbs_dvd_natAbs.mpr this)
  have e:((Int.gcd a b:Nat):Int).natAbs=Int.gcd a b:=Int.natAbs_natCast _
  omega
 refine⟨_,rfl,rfl,_,rfl,?_⟩
 refine ca (fun z=>by injection z with z;omega) ?_
 refine⟨_,rfl,_,rfl,a,b,rfl,?_⟩
 refine⟨_,rfl,_,_,rfl,rfl,_,rfl,?_⟩
 refine ca (by omega) ?_
 refine⟨_,rfl,_,rfl,_,_,rfl,rfl,⟨gp,gb⟩,_,rfl,_,rfl,_,_,rfl,rfl,⟨gp,gb⟩,lu,fun p hp=>?_⟩
 exact k p hp
theorem ze (T:eK K mg t):bh P w K mg base dC 2 t.a_Q35 t.d_Q35 ["one", "other"] (uX K):=by
 refine T.F_Q35.ok km (fun vs H Q E h=>?_) (fun cdv A outer s H vs Q E hr h=>?_)
 ·obtain⟨_,_,_,_,_,_,rfl,_⟩:=h;rfl
 obtain⟨v,w,r,q,n,m,rfl,hv,hw,wr,wq,hz,k⟩:=h
 refine df.ok (ac (bT 2 km.nd (dr (jK T) hr T.m_Q3 T.F_Q3.kp T.b_Q3 (aa (bW aH (qv 0) ah) (aa (bW aH (qv 1) ah) af aS) aS)))
   (ac (bT 3 km.nd (aA cj (aA bF (bW aH (qv 0) ah) (aA cz (bW aH (qv 1) ah) (qv 2))) (aA bF (bW aH (qv 1) ah) (aA cz (bW aH (qv 0) ah) (qv 2)))))
   (ac (bT 4 km.nd (dr (jK T) hr T.m_Q3 T.F_Q3.kp T.b_Q3 (aa (qv 3) (aa (qv 2) af ad) ad)))
   (ak (aT (cF (aa (aA cz (qv 3) (qv 4)) (aa (aA bF (aA cz (bW aH (qv 0) ah) (qv 2)) (aA cz (bW aH (qv 1) ah) (qv 4))) af aP) aP))))))) ?_
 extract_lets +lift
 try dsimp -zeta -zetaDelta only [Cx.nox,Cx.wish,bO]
 obtain⟨p,rfl,hv⟩:=hv
 obtain⟨p',rfl,hw⟩:=hw
 have c1:=aW wr.top (show n≤4000 by omega)
 have c2:=aW wr.bot (show n≤4000 by omega)
 have c3:=aW wq.top (show m≤4000 by omega)
 have c4:=aW wq.bot (show m≤4000 by omega)
 have gp:(0:Int) < (Int.gcd r.2 q.2:Nat):=bo wq.pos
 have gb:=i7 (a:=r.2) wq.pos c4
 refine⟨_,rfl,p,_,_,_,rfl,rfl,hv,rfl,_,rfl,p',_,_,_,rfl,rfl,hw,rfl,r.2,q.2,rfl,?_⟩
 have z:=sR ⟨wr.pos,wr.cop⟩ ⟨wq.pos,wq.cop⟩
 have kk:kG H Q (lU r q):=by rw [z];exact k
 unfold lU at kk
 simp only at kk
 generalize ((Int.gcd r.2 q.2:Nat):Int)=d at gp gb kk ⊢
 refine⟨_,rfl,p,_,_,_,rfl,rfl,hv,rfl,_,rfl,p',_,_,_,rfl,rfl,hw,rfl,_,rfl,_,_,rfl,rfl,⟨gp,gb⟩,_,_,rfl,rfl,⟨c1,eZ gp c4⟩,_,rfl,p',_,_,_,rfl,rfl,hw,rfl,_,rfl,p,_,_,_,rfl,rfl,hv,rfl,_,rfl,_,_,rfl,rfl,⟨gp,gb⟩,_,_,rfl,rfl,⟨c3,eZ gp c2⟩,_,_,rfl,rfl,?_⟩
 refine⟨_,rfl,_,rfl,_,_,rfl,?_⟩
 have ep:(0:Int) < (Int.gcd (r.1 * (q.2 / d)+q.1 * (r.2 / d)) d:Nat):=bo gp
 have eb:=i7 (a:=r.1 * (q.2 / d)+q.1 * (r.2 / d)) gp gb
 generalize ((Int.gcd (r.1 * (q.2 / d)+q.1 * (r.2 / d)) d:Nat):Int)=e at ep eb kk ⊢
 refine⟨_,rfl,_,rfl,_,_,rfl,rfl,⟨ep,eb⟩,_,rfl,p,_,_,_,rfl,rfl,hv,rfl,_,rfl,_,_,rfl,rfl,⟨gp,gb⟩,_,rfl,p',_,_,_,rfl,rfl,hw,rfl,_,rfl,_,_,rfl,rfl,⟨ep,eb⟩,_,_,rfl,rfl,⟨eZ gp c2,eZ ep c4⟩,lu,kk⟩
theorem tH (T:eK K mg t):bh P w K mg base dC 2 t.a_Q32 t.d_Q32 ["one", "other"] (qO K):=by
 refine T.F_Q32.ok mU (fun vs H Q E h=>?_) (fun cdv A outer s H vs Q E hr h=>?_)
 ·obtain⟨_,_,_,_,_,_,rfl,_⟩:=h;rfl
 obtain⟨v,w,r,q,n,m,rfl,hv,hw,wr,wq,hz,k⟩:=h
 refine df.ok (ac (bT 2 mU.nd (dr (jK T) hr T.m_Q3 T.F_Q3.kp T.b_Q3 (aa (bW aH (qv 0) ah) (aa (bW aH (qv 1) ah) af aS) aS)))
   (ac (bT 3 mU.nd (dr (jK T) hr T.m_Q3 T.F_Q3.kp T.b_Q3 (aa (bW aH (qv 1) ah) (aa (bW aH (qv 0) ah) af aS) aS)))
   (ak (aT (cF (aa (aA bF (aA cz (bW aH (qv 0) ah) (qv 2)) (aA cz (bW aH (qv 1) ah) (qv 3))) (aa (aA bF (aA cz (bW aH (qv 0) ah) (qv 3)) (aA cz (bW aH (qv 1) ah) (qv 2))) af aP) aP)))))) ?_
 extract_lets +lift
 try dsimp -zeta -zetaDelta only [Cx.nox,Cx.wish,bO]
 obtain⟨p,rfl,hv⟩:=hv
 obtain⟨p',rfl,hw⟩:=hw
 have c1:=aW wr.top (show n≤4000 by omega)
 have c2:=aW wr.bot (show n≤4000 by omega)
 have c3:=aW wq.top (show m≤4000 by omega)
 have c4:=aW wq.bot (show m≤4000 by omega)
 have lp:(0:Int) < (Int.gcd r.1 q.2:Nat):=bo wq.pos
 have lb:=i7 (a:=r.1) wq.pos c4
 have mp:(0:Int) < (Int.gcd q.1 r.2:Nat):=bo wr.pos
 have mb:=i7 (a:=q.1) wr.pos c2
 have z:=pC ⟨wr.pos,wr.cop⟩ ⟨wq.pos,wq.cop⟩
 have kk:kG H Q (iE r q):=by rw [z];exact k
 unfold iE at kk
 simp only at kk
 refine⟨_,rfl,p,_,_,_,rfl,rfl,hv,rfl,_,rfl,p',_,_,_,rfl,rfl,hw,rfl,r.1,q.2,rfl,_,rfl,p',_,_,_,rfl,rfl,hw,rfl,_,rfl,p,_,_,_,rfl,rfl,hv,rfl,q.1,r.2,rfl,?_⟩
 generalize ((Int.gcd r.1 q.2:Nat):Int)=l at lp lb kk ⊢
 generalize ((Int.gcd q.1 r.2:Nat):Int)=m' at mp mb kk ⊢
 refine⟨_,rfl,p,_,_,_,rfl,rfl,hv,rfl,_,rfl,_,_,rfl,rfl,⟨lp,lb⟩,_,rfl,p',_,_,_,rfl,rfl,hw,rfl,_,rfl,_,_,rfl,rfl,⟨mp,mb⟩,_,_,rfl,rfl,⟨eZ lp c1,eZ mp c3⟩,_,rfl,p,_,_,_,rfl,rfl,hv,rfl,_,rfl,_,_,rfl,rfl,⟨mp,mb⟩,_,rfl,p',_,_,_,rfl,rfl,hw,rfl,_,rfl,_,_,rfl,rfl,⟨lp,lb⟩,_,_,rfl,rfl,⟨eZ mp c2,eZ lp c4⟩,lu,kk⟩
theorem zd (T:eK K mg t):bh P w K mg base dC 3 t.a_Q36 t.d_Q36 ["one", "other"] (uZ K):=by
 refine T.F_Q36.ok xV (fun vs H Q E h=>?_) (fun cdv A outer s H vs Q E hr h=>?_)
 ·obtain⟨_,_,_,_,_,rfl,_⟩:=h;rfl
 obtain⟨v,w,r,n,m,rfl,hv,⟨pw,rfl,hw⟩,wr,m0,m24,hn,k⟩:=h
 refine df.ok (ac (cE (aN gZ (bW aH (qv 1) ah) ah (aV _)) (ak lP) bK)
   (ak (aT (dr (tH T) hr T.m_Q32 T.F_Q32.kp T.b_Q32 (aa (qv 0) (aa (dr (nC T) hr T.m_Q31 T.F_Q31.kp T.b_Q31 (aa (bW aH (qv 1) ah) (aa (bW aH (qv 1) ah) af aS) aS)) af aG) ad))))) ?_
 extract_lets +lift
 try dsimp -zeta -zetaDelta only [Cx.nox,Cx.wish,bO]
 refine⟨_,rfl,pw,_,_,_,rfl,rfl,hw,rfl,rfl,_,rfl,ca (fun z=>by injection z with z;omega) ?_⟩
 refine⟨_,rfl,_,rfl,pw,_,_,_,rfl,rfl,hw,rfl,_,rfl,pw,_,_,_,rfl,rfl,hw,rfl,1,m,rfl,by omega,aW (n:=8) (by show ((m:Int)).natAbs < 256;omega) (by decide),fun pr hpr=>?_⟩
 have s1:=ai hpr (.tup [.int (cX 1 m).1,.int (cX 1 m).2])
 have rr:RV K _ (.ref pr) (cX 1 m):=RV.of (ae (H:=H) (a:=pr) (o:=.tup [.int (cX 1 m).1,.int (cX 1 m).2]))
 rw [zJ m0] at rr s1 ⊢
 refine⟨v,.ref pr,r,(1,(m:Int)),n,8,rfl,hv.mono (be.same s1),rr,wr,za m0 m24,by omega,fun pt hpt=>?_⟩
 exact k _ _ (s1.trans (ai hpt _)) (RV.of ae)
theorem zg (T:eK K mg t):bh P w K mg base dC 3 t.a_Q33 t.d_Q33 ["some"] (qN K):=by
 refine T.F_Q33.ok fV (fun vs H Q E h=>?_) (fun cdv A outer s H vs Q E hr h=>?_)
 ·obtain⟨_,_,_,_,_,rfl,_⟩:=h;rfl
 obtain⟨a,xs,rs,n,D₀,rfl,hS,hR,hWD,h0,hDn₀,hlen,hn,k⟩:=h
 refine df.ok (ac (bT 1 fV.nd gt)
   (ac (cf PassesOwn.never rfl (yC (qv 0)) (aB (i:=2) fV.nd rfl (by first | exact Or.inl rfl | exact Or.inr rfl))
   (ak (gk (dY hr) (qv 1) (bW aH (qv 2) ah) (aA cj (sv (dY hr) (qv 1) (bW aH (qv 2) ah) ah ⟨rfl,rfl,rfl,rfl⟩) (bW aH (qv 2) ah)) rfl)))
   (ac (bT 3 fV.nd (ir (v:=.ref t.c_NOUGHT) rfl T.m_NOUGHT rfl))
   (ac (cf PassesOwn.never rfl (so (qv 1)) (nj rfl (b8 (aB (i:=4) fV.nd rfl (by first | exact Or.inl rfl | exact Or.inr rfl)) (b8 (aB (i:=5) fV.nd rfl (by first | exact Or.inl rfl | exact Or.inr rfl)) fm)))
   (ak (bT 3 fV.nd (dr (ze T) hr T.m_Q35 T.F_Q35.kp T.b_Q35 (aa (qv 3) (aa (dr (nC T) hr T.m_Q31 T.F_Q31.kp T.b_Q31 (aa (qv 5) (aa (qv 4) af ad) ad)) af aG) ad)))))
   (ak (aT (qv 3))))))) ?_
 extract_lets +lift
 try dsimp -zeta -zetaDelta only [Cx.nox,Cx.wish,bO]
 refine fun D hDn=>⟨_,rfl,?_⟩
 have sD:=ai hDn (.dK [])
 rcases hS with hS | hS
 ·refine .inl ⟨a,rfl,⟨_,sD.seq hS⟩,cJ (K:=K) (a:=a) (xs:=xs) (fun i σ H'=>∃ (x:Option V) (ps:List (Int×Int)),σ=[some (.ref a),some (.ref D),x,none,none,none]/\az H H'/\H' D=some (.dK (jv ps))/\ij n i ps/\(∀ p∈ps,p.1∣(D₀:Int))/\fQ ps=hV (rs.take i)) ⟨none,[],rfl,sD,ae,ij.nil n,(fun _ h=>nomatch h),rfl⟩ (fun i σ H1 _ ⟨_,_,_,s1,_⟩=>s1.seq hS) ?_ ?_⟩
  ·rintro i y σ H1 hi ⟨x,ps,rfl,s1,hD1,ok,dv,ev⟩
   obtain⟨ry,hry,hyv⟩:=hR.at hi
   have my:ry∈rs:=List.mem_of_getElem? hry
   have hil:=(List.getElem?_eq_some_iff.mp hry).1
   obtain⟨py,rfl,hSy⟩:=hyv.mono (be.same s1)
   have el:(jv ps).length=ps.length:=List.length_map _
   have hlp:(jv ps).length < sizeLine:=by rw [el];exact aZ (by have:=ok.len;omega)
   refine⟨_,rfl,D,rfl,.inl ⟨_,.inl hD1⟩,_,rfl,py,_,_,_,rfl,rfl,hSy,rfl,_,fj.k (k:=Sum.inl ry.2) hD1,_,rfl,py,_,_,_,rfl,rfl,hSy,rfl,mM ps ry.2,ry.1,kN ps ry.2,rfl,_,rfl,_,rfl,py,_,_,_,rfl,rfl,hSy,rfl,D,_,rfl,jk.k (k:=Sum.inl ry.2) hD1 hlp,?_⟩
   refine⟨_,dJ ps ry.2 ry.1,rfl,fun b o q=>?_,?_,ok.add (hWD ry my).1,pd (i:=0) (n:=0) dv (hWD ry my).2,?_⟩
   ·rw [aj (ay q hDn)]
    exact s1 b o q
   ·rw [ky ps _ _ ok.nd]
    exact ae
   ·rw [iF,ev,List.take_add_one,hry]
    exact (gE _ _).symm
  ·rintro σ H1 ⟨x,ps,rfl,s1,hD1,ok,dv,ev⟩
   rw [hR.1,List.take_length] at ev
   rw [hR.1] at ok
   refine⟨_,rfl,D,jv ps,rfl,hD1,fun ob=>jQ (d:=D) (ob:=ob) (kvs:=jv ps) (fun j σ H'=>∃ (u:V) (acc:R) (y4 y5:Option V),σ=[some (.ref a),some (.ref D),x,some u,y4,y5]/\az H H'/\H' D=some (.frz ob (.dK (jv ps)))/\RV K H' u acc/\Bq D₀ (64 * 2 ^ n * j) acc/\val acc=fQ (ps.take j)) ⟨_,(0,1),none,none,rfl,?_,ae,⟨_,rfl,T.q_NOUGHT _⟩,⟨by decide,by decide,⟨(D₀:Int),by show (D₀:Int)=1 * D₀;omega⟩,by show 0≤_;exact Nat.zero_le _⟩,fO⟩ (fun i σ H1 ⟨_,_,_,_,_,_,z,_⟩=>z) ?_ ?_⟩
   ·intro b o q
    rw [aj (ay q hDn)]
    exact s1 b o q
   ·rintro j kk v p σ H2 hkv ⟨u,acc,y4,y5,rfl,s2,hD2,r2,w2,ev2⟩ hp
    have hkv':(ps.map fun p=>((Sum.inl p.1:bR),V.int p.2))[j]?=some (kk,v):=hkv
    rw [List.getElem?_map] at hkv'
    obtain⟨q,hq,e⟩:=Option.map_eq_some_iff.mp hkv'
    cases e
    have mq:=List.mem_of_getElem? hq
    have hjl:=(List.getElem?_eq_some_iff.mp hq).1
    have wq:=ok.wf (by omega) mq
    have lps:=ok.len
    have gq:=uf ok dv hlen mq
    have wa:=uH w2 (by omega) h0 hDn₀
    have bq:=ok.bot q mq
    have e1:=ai hp (.tup [kV (Sum.inl q.1),V.int q.2])
    refine⟨p,_,rfl,bS.of ae,rfl,_,_,rfl,_,_,rfl,rfl,?_⟩
    refine⟨_,rfl,_,rfl,_,rfl,q.2,q.1,rfl,bq.1,aW bq.2 (by omega),fun p1 g1=>?_⟩
    have e2:=ai g1 (.tup [.int (cX q.2 q.1).1,.int (cX q.2 q.1).2])
    refine⟨u,.ref p1,acc,cX q.2 q.1,2 * n+12,n+8,rfl,(r2.mono (be.same e1)).mono (be.same e2),RV.of ae,wa,wq,by omega,fun p2 g2=>?_⟩
    have e3:=ai g2 (.tup [.int (bU acc (cX q.2 q.1)).1,.int (bU acc (cX q.2 q.1)).2])
    have s3:=((e1.trans e2).trans e3)
    refine⟨_,bU acc (cX q.2 q.1),_,_,rfl,s2.trans s3,s3 _ _ hD2,RV.of ae,(by rw [Nat.mul_succ];exact Bq.plus h0 w2 gq),?_⟩
    rw [f6 w2.pos wq.pos,j5 bq.1,ev2,List.take_add_one,hq]
    exact (gF _ _).symm
   ·rintro σ H2 ⟨u,acc,y4,y5,rfl,s2,hD2,r2,w2,ev2⟩
    have el:(jv ps).length=ps.length:=List.length_map _
    rw [el,List.take_length] at ev2
    have es:=qK (fun r hr=>(hWD r hr).1.red) w2.red (ev2.trans ev)
    rw [es] at r2
    exact⟨_,rfl,k u H2 s2 r2⟩
 ·refine .inr ⟨a,rfl,⟨_,be.same sD _ _ hS⟩,wm (K:=K) (a:=a) (xs:=xs) (fun i σ H'=>∃ (x:Option V) (ps:List (Int×Int)),σ=[some (.ref a),some (.ref D),x,none,none,none]/\az H H'/\H' D=some (.dK (jv ps))/\ij n i ps/\(∀ p∈ps,p.1∣(D₀:Int))/\fQ ps=hV (rs.take i)) ⟨none,[],rfl,sD,ae,ij.nil n,(fun _ h=>nomatch h),rfl⟩ (fun i σ H1 _ ⟨_,_,_,s1,_⟩=>be.same s1 _ _ hS) ?_ ?_⟩
  ·rintro i y σ H1 hi ⟨x,ps,rfl,s1,hD1,ok,dv,ev⟩
   obtain⟨ry,hry,hyv⟩:=hR.at hi
   have my:ry∈rs:=List.mem_of_getElem? hry
   have hil:=(List.getElem?_eq_some_iff.mp hry).1
   obtain⟨py,rfl,hSy⟩:=hyv.mono (be.same s1)
   have el:(jv ps).length=ps.length:=List.length_map _
   have hlp:(jv ps).length < sizeLine:=by rw [el];exact aZ (by have:=ok.len;omega)
   refine⟨_,rfl,D,rfl,.inl ⟨_,.inl hD1⟩,_,rfl,py,_,_,_,rfl,rfl,hSy,rfl,_,fj.k (k:=Sum.inl ry.2) hD1,_,rfl,py,_,_,_,rfl,rfl,hSy,rfl,mM ps ry.2,ry.1,kN ps ry.2,rfl,_,rfl,_,rfl,py,_,_,_,rfl,rfl,hSy,rfl,D,_,rfl,jk.k (k:=Sum.inl ry.2) hD1 hlp,?_⟩
   refine⟨_,dJ ps ry.2 ry.1,rfl,fun b o q=>?_,?_,ok.add (hWD ry my).1,pd (i:=0) (n:=0) dv (hWD ry my).2,?_⟩
   ·rw [aj (ay q hDn)]
    exact s1 b o q
   ·rw [ky ps _ _ ok.nd]
    exact ae
   ·rw [iF,ev,List.take_add_one,hry]
    exact (gE _ _).symm
  ·rintro σ H1 ⟨x,ps,rfl,s1,hD1,ok,dv,ev⟩
   rw [hR.1,List.take_length] at ev
   rw [hR.1] at ok
   refine⟨_,rfl,D,jv ps,rfl,hD1,fun ob=>jQ (d:=D) (ob:=ob) (kvs:=jv ps) (fun j σ H'=>∃ (u:V) (acc:R) (y4 y5:Option V),σ=[some (.ref a),some (.ref D),x,some u,y4,y5]/\az H H'/\H' D=some (.frz ob (.dK (jv ps)))/\RV K H' u acc/\Bq D₀ (64 * 2 ^ n * j) acc/\val acc=fQ (ps.take j)) ⟨_,(0,1),none,none,rfl,?_,ae,⟨_,rfl,T.q_NOUGHT _⟩,⟨by decide,by decide,⟨(D₀:Int),by show (D₀:Int)=1 * D₀;omega⟩,by show 0≤_;exact Nat.zero_le _⟩,fO⟩ (fun i σ H1 ⟨_,_,_,_,_,_,z,_⟩=>z) ?_ ?_⟩
   ·intro b o q
    rw [aj (ay q hDn)]
    exact s1 b o q
   ·rintro j kk v p σ H2 hkv ⟨u,acc,y4,y5,rfl,s2,hD2,r2,w2,ev2⟩ hp
    have hkv':(ps.map fun p=>((Sum.inl p.1:bR),V.int p.2))[j]?=some (kk,v):=hkv
    rw [List.getElem?_map] at hkv'
    obtain⟨q,hq,e⟩:=Option.map_eq_some_iff.mp hkv'
    cases e
    have mq:=List.mem_of_getElem? hq
    have hjl:=(List.getElem?_eq_some_iff.mp hq).1
    have wq:=ok.wf (by omega) mq
    have lps:=ok.len
    have gq:=uf ok dv hlen mq
    have wa:=uH w2 (by omega) h0 hDn₀
    have bq:=ok.bot q mq
    have e1:=ai hp (.tup [kV (Sum.inl q.1),V.int q.2])
    refine⟨p,_,rfl,bS.of ae,rfl,_,_,rfl,_,_,rfl,rfl,?_⟩
    refine⟨_,rfl,_,rfl,_,rfl,q.2,q.1,rfl,bq.1,aW bq.2 (by omega),fun p1 g1=>?_⟩
    have e2:=ai g1 (.tup [.int (cX q.2 q.1).1,.int (cX q.2 q.1).2])
    refine⟨u,.ref p1,acc,cX q.2 q.1,2 * n+12,n+8,rfl,(r2.mono (be.same e1)).mono (be.same e2),RV.of ae,wa,wq,by omega,fun p2 g2=>?_⟩
    have e3:=ai g2 (.tup [.int (bU acc (cX q.2 q.1)).1,.int (bU acc (cX q.2 q.1)).2])
    have s3:=((e1.trans e2).trans e3)
    refine⟨_,bU acc (cX q.2 q.1),_,_,rfl,s2.trans s3,s3 _ _ hD2,RV.of ae,(by rw [Nat.mul_succ];exact Bq.plus h0 w2 gq),?_⟩
    rw [f6 w2.pos wq.pos,j5 bq.1,ev2,List.take_add_one,hq]
    exact (gF _ _).symm
   ·rintro σ H2 ⟨u,acc,y4,y5,rfl,s2,hD2,r2,w2,ev2⟩
    have el:(jv ps).length=ps.length:=List.length_map _
    rw [el,List.take_length] at ev2
    have es:=qK (fun r hr=>(hWD r hr).1.red) w2.red (ev2.trans ev)
    rw [es] at r2
    exact⟨_,rfl,k u H2 s2 r2⟩
theorem zw (T:eK K mg t):bh P w K mg base dC 2 t.a_Q12 t.d_Q12 ["some"] (iH K):=by
 refine T.F_Q12.ok kr (fun vs H Q E h=>?_) (fun cdv A outer s H vs Q E hr h=>?_)
 ·obtain⟨_,_,_,_,rfl,_⟩:=h;rfl
 obtain⟨a,xs,rs,D₀,rfl,hS,al,hn,d0,d1,ok,k⟩:=h
 refine df.ok (ac (bT 1 kr.nd ah)
   (ac (cf PassesOwn.never rfl (aX (qv 0)) (aB (i:=2) kr.nd rfl (by first | exact Or.inl rfl | exact Or.inr rfl))
   (ak (bT 1 kr.nd (aA bF (qv 1) (aA cz (bW aH (qv 2) ah) (dr (jK T) hr T.m_Q3 T.F_Q3.kp T.b_Q3 (aa (qv 1) (aa (bW aH (qv 2) ah) af aS) ad)))))))
   (ak (aT (aU (N':=["one", "bottom"]) (src:=[none,some 1]) rfl (by exact (aX (qv 0))) (fun _ _ _ _ _=>(by exact (by exact aB (i:=0) (by show List.Nodup (["one", "bottom"]:List Str);decide +kernel) (by exact rfl) (by first | exact Or.inl rfl | exact Or.inr rfl)))) (fun _ _ _ _ _=>bJ) (fun _ _ _ _ _=>(by exact (by exact (aA bF (by exact (bu (cm (K:=K) (by exact rfl)) (by exact (qv 0)) ah (by exact fun _ _=>rfl))) (by exact (aA cz (by exact (qv 1)) (by exact (bu (cm (K:=K) (by exact rfl)) (by exact (qv 0)) ah (by exact fun _ _=>rfl))))))))) (by exact⟨rfl,rfl,rfl,rfl,trivial⟩) rfl (by decide +kernel) rfl (by decide +kernel) (by exact aQ rfl ⟨rfl,trivial⟩)))))) ?_
 extract_lets +lift
 try dsimp -zeta -zetaDelta only [Cx.nox,Cx.wish,bO]
 have hlen:=al.len
 let Iv1:Nat->L2.St->Hp->Prop:=fun i σ H'=>∃ (B:Int) (x3:Option V),σ=[some (.ref a),some (.int B),x3]/\H'=H/\0 < B/\B∣(D₀:Int)/\∀ r∈rs.take i,r.2∣B
 refine⟨_,rfl,a,rfl,⟨_,hS⟩,cJ (K:=K) (a:=a) (xs:=xs) Iv1 ⟨1,none,rfl,rfl,by decide,⟨(D₀:Int),by omega⟩,by simp⟩ (fun i σ H1 _ ⟨_,_,_,e,_⟩=>by rw [e];exact hS) ?_ ?_⟩
 ·rintro i x σ H1 hx ⟨B,x3,rfl,rfl,b0,bd,all⟩
  obtain⟨r,hr,px,rfl,hSx⟩:=al.at hx
  obtain⟨c1,c2,c9⟩:=ok r (List.mem_of_getElem? hr)
  have c3:=Int.le_of_dvd (by omega) c2
  have B84:=Int.le_of_dvd (by omega) bd
  have g0:0 < (Int.gcd B r.2:Int):=bo (by omega)
  have g1:(Int.gcd B r.2:Int)≤r.2:=Int.le_of_dvd (by omega) (Int.gcd_dvd_right _ _)
  obtain⟨l0,l1,l2,l3⟩:=Dg b0 c1 bd c2
  refine⟨_,rfl,_,rfl,px,_,_,_,rfl,rfl,hSx,rfl,_,rfl,_,rfl,px,_,_,_,rfl,rfl,hSx,rfl,B,r.2,rfl,_,_,rfl,rfl,⟨g0,uC (by omega) (Int.le_trans g1 c3) d1⟩,_,_,rfl,rfl,⟨uC (by omega) B84 d1,uC (Int.ediv_nonneg (by omega) (by omega)) (Int.le_trans (Int.ediv_le_self _ (by omega)) c3) d1⟩,?_⟩
  refine⟨_,_,rfl,rfl,l0,l1,fun z hz=>?_⟩
  rw [List.take_add_one,hr] at hz
  rcases List.mem_append.mp hz with h | h
  ·exact Int.dvd_trans (all z h) l2
  ·have:z=r:=by simpa using h
   subst this
   exact l3
 ·rintro σ H1 ⟨B,x3,rfl,rfl,b0,bd,all⟩
  rw [hlen,List.take_length] at all
  have B84:=Int.le_of_dvd (by omega) bd
  refine⟨_,rfl,a,rfl,⟨_,hS⟩,fun D hD=>bn (c7 hS) (fun _=>true) (fun i=>V.int ((xF B rs).getD i 0)) hD (by omega) (fun i x H' hi s' hx R E kR kE=>?_) fun H4 s4 h4=>?_⟩
  ·obtain⟨r,hr,px,rfl,hSx⟩:=al.at hx
   obtain⟨c1,c2,c9⟩:=ok r (List.mem_of_getElem? hr)
   have c3:=Int.le_of_dvd (by omega) c2
   have t':=be.same (K:=K) s'
   have e:(xF B rs).getD i 0=r.1 * (B / r.2):=aq 0 (by unfold xF;rw [List.getElem?_map,hr];rfl)
   have q:=kR rfl _ (az.refl _)
   rw [e] at q
   have e0:0≤B / r.2:=Int.ediv_nonneg (by omega) (by omega)
   have e1:B / r.2≤B:=Int.ediv_le_self _ (by omega)
   exact⟨dM.set rfl,_,rfl,px,_,_,_,rfl,rfl,t' _ _ hSx,rfl,_,rfl,_,rfl,px,_,_,_,rfl,rfl,t' _ _ hSx,rfl,_,_,rfl,rfl,⟨by omega,uC (by omega) c3 d1⟩,_,_,rfl,rfl,⟨c9,uC e0 (Int.le_trans e1 B84) d1⟩,q⟩
  ·refine k D B H4 s4 hD b0 bd all ?_
   rw [h4,show xs.length=(xF B rs).length by unfold xF;rw [List.length_map];exact hlen,bg 0 V.int]
theorem zp (T:eK K mg t):bh P w K mg base dC 1 t.a_Q18 t.d_Q18 ["work", "turn"] (kh K):=by
 refine T.F_Q18.ok ya (fun vs H Q E h=>?_) (fun cdv A outer s H vs Q E hr h=>?_)
 ·obtain⟨_,_,_,rfl,_⟩:=h;rfl
 obtain⟨v,w,t₀,rfl,⟨p,x,rfl,hS,rx⟩,k⟩:=h
 refine df.ok (ak (aT (sx oJ oJ (bW aH (qv 0) ah) (qv 1) (bW aH (qv 0) ah)))) ?_
 extract_lets +lift
 try dsimp -zeta -zetaDelta only [Cx.nox,Cx.wish,bO]
 refine⟨_,rfl,p,_,_,_,rfl,rfl,hS,rfl,_,rfl,_,_,rfl,rfl,_,rfl,?_⟩
 by_cases c:w.1≤t₀
 ·refine cq (by omega) ?_
  have e:fL w t₀=decide ((t₀:Int)≤(w.2.1:Int)):=by
   unfold fL
   rw [decide_eq_true c,Bool.true_and]
   exact decide_eq_decide.mpr (by omega)
  rw [e] at k
  exact⟨_,rfl,p,_,_,_,rfl,rfl,hS,rfl,_,_,rfl,rfl,k⟩
 ·refine ca (by omega) ?_
  have e:fL w t₀=false:=by
   unfold fL
   rw [decide_eq_false c,Bool.false_and]
  rw [e] at k
  exact k
theorem tL (T:eK K mg t):bh P w K mg base dC 2 t.a_Q16 t.d_Q16 ["works", "free"] (jq K):=by
 refine T.F_Q16.ok yb (fun vs H Q E h=>?_) (fun cdv A outer s H vs Q E hr h=>?_)
 ·obtain⟨_,_,_,_,_,rfl,_⟩:=h;rfl
 obtain⟨a,b,xs,ws,fr,rfl,hS,al,w20,hF,f24,k⟩:=h
 refine df.ok (ak (aT (pN (N':=["turn", "hands", "works"]) (y := "turn") (src:=[none,none,some 0]) rfl (by exact (iR rfl T.z_enumerate (aa (qv 1) af ad))) (fun _ _ _ _ _=>(by exact (by exact kx (K:=K) (n:=2) (by exact rfl) (by exact rfl) (by exact b8 (by exact aB (i:=0) (by show List.Nodup (["turn", "hands", "works"]:List Str);decide +kernel) (by exact rfl) (by first | exact Or.inl rfl | exact Or.inr rfl)) (by exact b8 (by exact aB (i:=1) (by show List.Nodup (["turn", "hands", "works"]:List Str);decide +kernel) (by exact rfl) (by first | exact Or.inl rfl | exact Or.inr rfl)) fm))))) (fun _ _ _ _ _=>bJ) (fun _ _ _ _ _=>(by exact (by exact (aD (jV rfl) (by exact rfl) T.z_min boot_min (aa (by exact (qv 1)) (aa (by exact (aD (qi (K:=K) (by exact rfl)) (by exact rfl) T.z_len boot_len (aa (by exact (pM (N':=["work", "turn"]) (src:=[none,some 0]) (by exact rfl) (by exact rfl) (by exact (sk (K:=K) (by exact rfl) (by exact (qv 2)))) (by exact fun _ _ _ _ _=>(by exact (by exact aB (i:=0) (by show List.Nodup (["work", "turn"]:List Str);decide +kernel) (by exact rfl) (by first | exact Or.inl rfl | exact Or.inr rfl)))) (by exact fun _ _ _ _ _=>(cD (ku (by exact (iu (zp T) (by exact hr.mono (by decide)) (by exact rfl) T.m_Q18 T.F_Q18.kp T.b_Q18 (by exact .nil) (by exact c6) (aa (by exact (qv 0)) (aa (by exact (qv 1)) af ad) ad)))))) (by exact fun _ _ _ _ _=>(by exact (by exact (qv 0)))) (by exact⟨rfl,rfl,rfl,rfl,trivial⟩) (by decide +kernel) (by exact rfl) (by decide +kernel) (by exact aQ rfl ⟨rfl,trivial⟩))) af c8))) af aG) ad))))) (by exact⟨rfl,rfl,rfl,rfl,trivial⟩) rfl (fun _=>rfl) (fun _=>rfl) rfl (by decide +kernel) (by exact qf rfl ⟨rfl,trivial⟩ rfl)))) ?_
 extract_lets +lift
 try dsimp -zeta -zetaDelta only [Cx.nox,Cx.wish,bO]
 have hlen:=al.len
 refine⟨_,rfl,b,rfl,⟨_,hF⟩,fun D hD=>bn (j4 hF) (fun _=>true) (fun i=>V.int (((bX ws fr).getD i 0:Nat):Int)) hD (by unfold av;rw [List.length_map];omega) (fun i x H' hi s' hx R E kR kE=>?_) fun H4 s4 h4=>?_⟩
 ·obtain⟨pe,y,rfl,hy,hpe⟩:=hx
  obtain⟨f,hf,rfl⟩:=bZ hy
  have s0:=s'
  have e:(bX ws fr).getD i 0=min f (bD ws i):=aq 0 (by unfold bX;rw [List.getElem?_map,List.getElem?_range (List.getElem?_eq_some_iff.mp hf).1];show some (min (fr.getD i 0) (bD ws i))=_;rw [aq 0 hf])
  rw [e] at kR
  refine⟨pe,_,rfl,bS.of hpe,rfl,_,_,rfl,_,_,rfl,rfl,(dM.set rfl).set' rfl,?_⟩
  refine⟨_,rfl,_,rfl,a,rfl,⟨_,s'.seq hS⟩,fun D2 hD2=>uz (K:=K) (P:=jn K) (ds:=ws) (f:=fun w:Wk=>w) (p:=fun w:Wk=>fL w i) (fun _ _ _ _ t p=>p.mono t) hD2 (s'.seq hS) hlen (by omega) (fun j z w H2 hz hw s2 R' E' kR' kE'=>?_) fun H3 ys s3 hD3 al3=>?_⟩
  ·obtain⟨w',hw',wv⟩:=al.at hz
   rw [hw] at hw'
   cases hw'
   have wv2:=wv.mono (be.same (s'.trans s2))
   refine⟨dM.set rfl,_,rfl,_,rfl,z,w,i,rfl,wv2,_,rfl,?_⟩
   cases c:fL w i with
   | true=>exact jt ⟨_,rfl,kR' c _ _ (az.refl _) wv2⟩
   | false=>exact ib (kE' c _ (az.refl _))
  ·have l3:=al3.len
   rw [List.length_map] at l3
   refine⟨D2,ys,rfl,.inl (aF.of hD3),_,_,rfl,?_⟩
   have q:=kR rfl _ s3
   have ee:(if ((ys.length:Nat):Int) < (f:Int) then ((ys.length:Nat):Int) else (f:Int))=((min f (bD ws i):Nat):Int):=by
    rw [l3]
    show (if ((bD ws i:Nat):Int) < (f:Int) then ((bD ws i:Nat):Int) else (f:Int))=_
    split <;> omega
   rw [ee]
   exact q
 ·refine k D H4 s4 hD ?_
  have lf:(av fr).length=(bX ws fr).length:=by unfold av bX;rw [List.length_map,List.length_map,List.length_range]
  have e4:=bg 0 (fun n:Nat=>V.int (n:Int)) (l:=bX ws fr)
  rw [h4,lf]
  exact congrArg (fun l=>some (HO.lst l)) e4
theorem zc (T:eK K mg t):bh P w K mg base dC 4 t.a_Q37 t.d_Q37 ["works", "free"] (uY K):=by
 refine T.F_Q37.ok xU (fun vs H Q E h=>?_) (fun cdv A outer s H vs Q E hr h=>?_)
 ·obtain⟨_,_,_,_,_,rfl,_⟩:=h;rfl
 obtain⟨a,b,xs,ws,fr,rfl,hS,al,w20,bq,hF,f24,b0,b200,k⟩:=h
 refine df.ok (ak (aT (dr (zd T) hr T.m_Q36 T.F_Q36.kp T.b_Q36 (aa (dr (zg T) hr T.m_Q33 T.F_Q33.kp T.b_Q33 (aa (aU (N':=["work"]) (src:=[none]) rfl (by exact (aX (qv 0))) (fun _ _ _ _ _=>(by exact (by exact aB (i:=0) (by show List.Nodup (["work"]:List Str);decide +kernel) (by exact rfl) (by first | exact Or.inl rfl | exact Or.inr rfl)))) (fun _ _ _ _ _=>bJ) (fun _ _ _ _ _=>(by exact (by exact (bu (cm (K:=K) (by exact rfl)) (by exact (qv 0)) ah (by exact fun _ _=>rfl))))) (by exact trivial) rfl (by decide +kernel) rfl (by decide +kernel) (by exact aQ rfl trivial)) af c8)) (aa (cF (aa (aD (jU rfl) (by rfl) T.z_sum boot_sum (aa (dr (tL T) hr T.m_Q16 T.F_Q16.kp T.b_Q16 (aa (qv 0) (aa (qv 1) af ad) ad)) af aG)) (aa ah af aK) aG)) af gc) aG)))) ?_
 extract_lets +lift
 try dsimp -zeta -zetaDelta only [Cx.nox,Cx.wish,bO]
 have hlen:=al.len
 refine⟨_,rfl,a,rfl,⟨_,hS⟩,fun D hD=>dZ (K:=K) (P:=RV K) (ds:=ws) (f:=fun w:Wk=>w.2.2) (fun _ _ _ _ t p=>p.mono t) hD hS hlen (by omega) (fun i x w H' hx hw s' R E kR=>?_) fun H2 ys s2 hD2 al2=>?_⟩
 ·obtain⟨w',hw',pw,am,rfl,hpw,ram⟩:=al.at hx
  rw [hw] at hw'
  cases hw'
  have t':=be.same (K:=K) s'
  refine⟨dM.set rfl,_,rfl,pw,_,_,_,rfl,rfl,t' _ _ hpw,rfl,?_⟩
  exact kR _ _ (az.refl _) (ram.mono t')
 have wr:∀ r∈(ws.map fun w=>w.2.2),Bq 84 12 r:=fun r hr=>by
  obtain⟨w,hw,rfl⟩:=List.mem_map.mp hr
  exact bq w hw
 refine⟨D,ys,ws.map fun w=>w.2.2,20,84,rfl,.inl (aF.of hD2),wG al2,fun r hr=>⟨(wr r hr).wf (by decide) (by decide) (by decide),(wr r hr).dvd⟩,by decide,by decide,by rw [List.length_map];omega,by decide,fun v3 H3 s3 rv3=>?_⟩
 have s03:=s2.trans s3
 refine⟨_,rfl,_,rfl,a,b,xs,ws,fr,rfl,s03.seq hS,al.mono fun _ _ z=>z.mono (be.same s03),w20,s03.seq hF,f24,fun l4 H4 s4 h0 e4=>?_⟩
 rw [gx] at e4
 refine⟨l4,_,rfl,aF.of e4,?_⟩
 rw [ka]
 refine⟨lu,fun pt hpt=>?_⟩
 have s5:=ai hpt (.tup [.int ((bX ws fr).sum:Nat),.int 1])
 have sq:=((ip (by decide) wr).mono (Nat.dvd_refl _) (show 12 * (ws.map fun w=>w.2.2).length≤240 by rw [List.length_map];omega)).wf (n:=20) (by decide) (by decide) (by decide)
 refine⟨v3,.ref pt,dD (ws.map fun w=>w.2.2),20,bi ws fr,rfl,(rv3.mono (be.same s4)).mono (be.same s5),RV.of ae,sq,b0,b200,by decide,fun v6 H6 s6 rv6=>?_⟩
 exact k v6 H6 (((s03.trans s4).trans s5).trans s6) rv6
theorem zt (T:eK K mg t):bh P w K mg base dC 1 t.a_Q14 t.d_Q14 ["_law_script", "_law_k"] (iJ K):=by
 refine T.F_Q14.ok yc (fun vs H Q E h=>?_) (fun cdv A outer s H vs Q E hr h=>?_)
 ·obtain⟨_,_,_,rfl,_⟩:=h;rfl
 obtain⟨a,ns,k₀,rfl,hS,k⟩:=h
 refine df.ok (ac (cE (aN jJ (qv 1) (aD aC (by rfl) T.z_len boot_len (aa (qv 0) af ad)) (aV _)) (ak (aT (bW aL (qv 0) (qv 1)))) bK)
   (ak (aT ah))) ?_
 extract_lets +lift
 try dsimp -zeta -zetaDelta only [Cx.nox,Cx.wish,bO]
 have hlm:((ns.map V.int).length:Int)=(ns.length:Int):=by rw [List.length_map]
 refine⟨_,rfl,_,rfl,a,_,rfl,.inl hS,_,_,rfl,rfl,_,rfl,?_⟩
 by_cases c:(k₀:Int) < ((ns.map V.int).length:Int)
 ·refine cq c ?_
  obtain⟨z,hz⟩:=xj (ns:=ns) (r:=(k₀:Int)) (by omega) (by omega)
  exact⟨_,rfl,_,rfl,a,_,_,_,rfl,rfl,hS,hz,k z⟩
 ·exact ca c (k 0)
theorem zo (T:eK K mg t):bh P w K mg base dC 1 t.a_Q19 t.d_Q19 ["_law_cell", "_law_many"] (kf K):=by
 refine T.F_Q19.ok eV (fun vs H Q E h=>?_) (fun cdv A outer s H vs Q E hr h=>?_)
 ·obtain⟨_,_,rfl,_⟩:=h;rfl
 obtain⟨c,m,rfl,m0,m1,k⟩:=h
 refine df.ok (ac (bT 2 eV.nd (bP af))
   (ac (bT 3 eV.nd ah)
   (ac (cE (aN tF (qv 0) (aA y3 ah ah) (aV _)) (ak (bT 3 eV.nd (qv 0))) bK)
   (ac (bT 4 eV.nd (aA cj (aA eA (qv 0) ah) ah))
   (ac (cf PassesOwn.never rfl (bx rfl T.z_range (aa (qv 1) af ad)) (aB (i:=5) eV.nd rfl (by first | exact Or.inl rfl | exact Or.inr rfl))
   (ac (bT 4 eV.nd (aA eA (aA cj (aA cj (aA gJ (qv 4) (qv 4)) (aA gJ ah (qv 4))) (aA gJ ah (qv 5))) ah))
   (ak (cE (aN gY (qv 3) ah (aV _)) (ac (da (iS PySem.F.plainAttrs_list PySem.F.slot_list_append PySem.F.type_list_append ck (qv 2) (aa (aA eA (qv 3) ah) af aP)))
   (ak (bT 3 eV.nd (aA oK (qv 3) ah)))) (ak (da (iS PySem.F.plainAttrs_list PySem.F.slot_list_append PySem.F.type_list_append ck (qv 2) (aa (aA oK (aA eA (aA cj (aA gJ (qv 4) ah) (aA gJ ah (qv 5))) ah) ah) af aP))))))))
   (ak (aT (qv 2)))))))) ?_
 extract_lets +lift
 try dsimp -zeta -zetaDelta only [Cx.nox,Cx.wish,bO]
 refine⟨(by show 0≤sizeLine;exact Nat.zero_le _),fun l h0=>?_⟩
 have s0:=ai h0 (.lst [])
 have q0:=Int.emod_nonneg c (show (2147483629:Int)≠0 by decide)
 have q1:=Int.emod_lt_of_pos c (show (0:Int) < 2147483629 by decide)
 refine⟨_,rfl,_,_,rfl,rfl,⟨by decide,by decide,by decide⟩,_,_,rfl,rfl,_,rfl,zT (fun _=>?_) (fun _=>?_)⟩
 ·refine⟨_,rfl,?_⟩
  refine⟨_,rfl,_,_,rfl,rfl,(by show (0:Int) < _;decide),_,_,rfl,rfl,?_⟩
  refine⟨_,rfl,m,rfl,by omega,by omega,cA (lo:=0) (n:=(m:Int).toNat) (fun i σ H'=>∃ (ns:List Int) (num mx:Int) (x6:Option V),σ=[some (.int c),some (.int m),some (.ref l),some (.int num),some (.int mx),x6]/\az H H'/\H' l=some (.lst (ns.map V.int))/\ns.length=i/\0≤mx/\mx < 2147540000) ⟨[],c,_,none,rfl,s0,ae,rfl,by omega,by omega⟩ ?_ ?_⟩
  ·rintro i σ H1 hi ⟨ns,num,mx,x6,rfl,s1,hl1,hn,x0,x1⟩
   refine⟨_,rfl,_,rfl,_,_,rfl,rfl,.inl ⟨by omega,by omega⟩,_,rfl,_,_,rfl,rfl,.inl ⟨by decide,by decide⟩,_,_,rfl,rfl,_,rfl,_,_,rfl,rfl,.inl ⟨by decide,by decide⟩,_,_,rfl,rfl,_,_,rfl,rfl,(by show (0:Int) < _;decide),?_⟩
   have y0:=Int.emod_nonneg (mx * mx+48271 * mx+7 * (0+(i:Int))) (show (2147483647:Int)≠0 by decide)
   have y1:=Int.emod_lt_of_pos (mx * mx+48271 * mx+7 * (0+(i:Int))) (show (0:Int) < 2147483647 by decide)
   have fin:∀ (z:Int),∃ ns':List Int,ax H1 l (.lst (ns.map V.int++[.int z])) l=some (.lst (ns'.map V.int))/\ns'.length=i+1:=fun z=>⟨ns++[z],by rw [ae,List.map_append];rfl,by rw [List.length_append,hn];rfl⟩
   have sm:∀ o,az H (ax H1 l o):=fun o b u e=>by rw [aj (ay e h0)];exact s1 _ _ e
   refine⟨_,rfl,_,_,rfl,rfl,_,rfl,zT (fun _=>?_) (fun _=>?_)⟩
   ·refine⟨_,rfl,.inl ⟨rfl,_,aF.of hl1⟩,_,rfl,_,_,rfl,rfl,(by show (0:Int) < _;decide),l,_,_,rfl,rfl,hl1,aZ (by rw [List.length_map];omega),?_⟩
    refine⟨_,rfl,_,_,rfl,rfl,⟨by decide,by decide⟩,?_⟩
    obtain⟨ns',e,el⟩:=fin (num % 720720)
    exact⟨ns',_,_,_,rfl,sm _,e,el,y0,by omega⟩
   ·refine⟨_,rfl,.inl ⟨rfl,_,aF.of hl1⟩,_,rfl,_,_,rfl,rfl,.inr ⟨by decide,by decide⟩,_,rfl,_,_,rfl,rfl,.inl ⟨by decide,by decide⟩,_,_,rfl,rfl,_,_,rfl,rfl,(by show (0:Int) < _;decide),_,_,rfl,rfl,⟨by decide,by decide⟩,l,_,_,rfl,rfl,hl1,aZ (by rw [List.length_map];omega),?_⟩
    obtain⟨ns',e,el⟩:=fin (((mx * mx+48271 * mx+7 * (0+(i:Int))) % 2147483647 * 69621+13 * (0+(i:Int))) % 2147483629 / 3)
    exact⟨ns',_,_,_,rfl,sm _,e,el,y0,by omega⟩
  ·rintro σ H1 ⟨ns,num,mx,x6,rfl,s1,hl1,hn,x0,x1⟩
   exact⟨_,rfl,k l ns H1 s1 h0 hl1 (by rw [hn];omega)⟩
 ·refine⟨_,rfl,_,_,rfl,rfl,(by show (0:Int) < _;decide),_,_,rfl,rfl,?_⟩
  refine⟨_,rfl,m,rfl,by omega,by omega,cA (lo:=0) (n:=(m:Int).toNat) (fun i σ H'=>∃ (ns:List Int) (num mx:Int) (x6:Option V),σ=[some (.int c),some (.int m),some (.ref l),some (.int num),some (.int mx),x6]/\az H H'/\H' l=some (.lst (ns.map V.int))/\ns.length=i/\0≤mx/\mx < 2147540000) ⟨[],0,_,none,rfl,s0,ae,rfl,by omega,by omega⟩ ?_ ?_⟩
  ·rintro i σ H1 hi ⟨ns,num,mx,x6,rfl,s1,hl1,hn,x0,x1⟩
   refine⟨_,rfl,_,rfl,_,_,rfl,rfl,.inl ⟨by omega,by omega⟩,_,rfl,_,_,rfl,rfl,.inl ⟨by decide,by decide⟩,_,_,rfl,rfl,_,rfl,_,_,rfl,rfl,.inl ⟨by decide,by decide⟩,_,_,rfl,rfl,_,_,rfl,rfl,(by show (0:Int) < _;decide),?_⟩
   have y0:=Int.emod_nonneg (mx * mx+48271 * mx+7 * (0+(i:Int))) (show (2147483647:Int)≠0 by decide)
   have y1:=Int.emod_lt_of_pos (mx * mx+48271 * mx+7 * (0+(i:Int))) (show (0:Int) < 2147483647 by decide)
   have fin:∀ (z:Int),∃ ns':List Int,ax H1 l (.lst (ns.map V.int++[.int z])) l=some (.lst (ns'.map V.int))/\ns'.length=i+1:=fun z=>⟨ns++[z],by rw [ae,List.map_append];rfl,by rw [List.length_append,hn];rfl⟩
   have sm:∀ o,az H (ax H1 l o):=fun o b u e=>by rw [aj (ay e h0)];exact s1 _ _ e
   refine⟨_,rfl,_,_,rfl,rfl,_,rfl,zT (fun _=>?_) (fun _=>?_)⟩
   ·refine⟨_,rfl,.inl ⟨rfl,_,aF.of hl1⟩,_,rfl,_,_,rfl,rfl,(by show (0:Int) < _;decide),l,_,_,rfl,rfl,hl1,aZ (by rw [List.length_map];omega),?_⟩
    refine⟨_,rfl,_,_,rfl,rfl,⟨by decide,by decide⟩,?_⟩
    obtain⟨ns',e,el⟩:=fin (num % 720720)
    exact⟨ns',_,_,_,rfl,sm _,e,el,y0,by omega⟩
   ·refine⟨_,rfl,.inl ⟨rfl,_,aF.of hl1⟩,_,rfl,_,_,rfl,rfl,.inr ⟨by decide,by decide⟩,_,rfl,_,_,rfl,rfl,.inl ⟨by decide,by decide⟩,_,_,rfl,rfl,_,_,rfl,rfl,(by show (0:Int) < _;decide),_,_,rfl,rfl,⟨by decide,by decide⟩,l,_,_,rfl,rfl,hl1,aZ (by rw [List.length_map];omega),?_⟩
    obtain⟨ns',e,el⟩:=fin (((mx * mx+48271 * mx+7 * (0+(i:Int))) % 2147483647 * 69621+13 * (0+(i:Int))) % 2147483629 / 3)
    exact⟨ns',_,_,_,rfl,sm _,e,el,y0,by omega⟩
  ·rintro σ H1 ⟨ns,num,mx,x6,rfl,s1,hl1,hn,x0,x1⟩
   exact⟨_,rfl,k l ns H1 s1 h0 hl1 (by rw [hn];omega)⟩
theorem dF (T:eK K mg t):bh P w K mg base dC 1 t.a_Q24 t.d_Q24 ["_law_tape", "_law_many"] (lH K):=by
 refine T.F_Q24.ok xY (fun vs H Q E h=>?_) (fun cdv A outer s H vs Q E hr h=>?_)
 ·obtain⟨_,_,_,rfl,_⟩:=h;rfl
 obtain⟨t₁,l,m,rfl,tp,hm0,hm1,k⟩:=h
 refine df.ok (ac (nh (aA cj (bW aL (qv 0) ah) ah) (yD (qv 0) ah eU))
   (ak (aT (aA eA (bW aL (bW aL (qv 0) ah) (aA eA (aA cG (bW aL (qv 0) ah) ah) (aD aC (by rfl) T.z_len boot_len (aa (bW aL (qv 0) ah) af aS)))) (qv 1))))) ?_
 extract_lets +lift
 try dsimp -zeta -zetaDelta only [Cx.nox,Cx.wish,bO]
 obtain⟨ns,p,ht,hl,nl,n0,n1⟩:=tp.ex
 refine⟨_,rfl,t₁,_,_,_,rfl,rfl,aF.of ht,rfl,_,_,rfl,rfl,_,rfl,t₁,_,_,_,rfl,rfl,ht,rfl,?_⟩
 have hl':∀ o,ax H t₁ o l=some (.lst (ns.map V.int)):=fun o=>by rw [aj nl];exact hl
 have hlm:((ns.map V.int).length:Int)=(ns.length:Int):=by rw [List.length_map]
 obtain⟨z,hz⟩:=xj (ns:=ns) (r:=(p+1 - 1) % ((ns.map V.int).length:Int)) (Int.emod_nonneg _ (by omega)) (by have:=Int.emod_lt_of_pos (p+1 - 1) (show (0:Int) < ((ns.map V.int).length:Int) by omega);omega)
 refine⟨_,rfl,t₁,_,_,_,rfl,rfl,aF.of ae,rfl,_,rfl,t₁,_,_,_,rfl,rfl,aF.of ae,rfl,_,_,rfl,rfl,_,rfl,t₁,_,_,_,rfl,rfl,aF.of ae,rfl,l,_,rfl,.inl (aF.of (hl' _)),_,_,rfl,rfl,(by omega),l,_,_,_,rfl,rfl,aF.of (hl' _),hz,_,rfl,_,_,rfl,rfl,hm0,?_⟩
 exact k _ _ (Int.emod_nonneg _ (by omega)) (Int.emod_lt_of_pos _ hm0) ⟨ns,_,ae,hl' _,nl,n0,n1⟩
theorem kF (T:eK K mg t):bh P w K mg base dC 1 t.a_Q25 t.d_Q25 ["_law_top", "_law_bottom"] (lK K):=by
 refine T.F_Q25.ok mW (fun vs H Q E h=>?_) (fun cdv A outer s H vs Q E hr h=>?_)
 ·obtain⟨_,_,rfl,_⟩:=h;rfl
 obtain⟨a,b,rfl,hb,hz,k⟩:=h
 refine df.ok (ac (sj (i:=2) (j:=3) rfl mW.nd rfl rfl (by decide) rfl rfl (aa (aD je (by rfl) T.z_abs boot_abs (aa (qv 0) af ad)) (aa (qv 1) af ad) aG) rfl)
   (ac (cV PassesOwn.never (aN gY (qv 3) ah (aV _))
   (ak (sj (i:=2) (j:=3) rfl mW.nd rfl rfl (by decide) rfl rfl (aa (qv 3) (aa (aA eA (qv 2) (qv 3)) af aP) ad) rfl)))
   (ak (aT (cF (aa (aA cz (qv 0) (qv 2)) (aa (aA cz (qv 1) (qv 2)) af aP) aP)))))) ?_
 extract_lets +lift
 try dsimp -zeta -zetaDelta only [Cx.nox,Cx.wish,bO]
 have gp:=bo (a:=a) hb
 have gb:=i7 (a:=a) hb hz
 refine⟨_,rfl,_,rfl,_,rfl,_,_,rfl,?_⟩
 rw [nV]
 refine⟨fun m σ H'=>∃ (x y:Int),σ=[some (.int a),some (.int b),some (.int x),some (.int y)]/\H'=H/\0≤x/\0≤y/\Int.gcd x y=Int.gcd a b/\m=y.toNat,⟨_,_,_,rfl,rfl,by omega,by omega,(by simp [Int.gcd]),rfl⟩,?_⟩
 rintro m σ H' ⟨x,y,rfl,rfl,hx,hy,hg,rfl⟩
 refine⟨_,rfl,_,_,rfl,rfl,_,rfl,?_⟩
 by_cases c:y=0
 ·subst c
  refine ca (by decide) ?_
  have e:(x:Int)=(Int.gcd x 0:Nat):=by simp [Int.gcd];omega
  rw [hg] at e
  subst e
  exact⟨_,rfl,_,rfl,_,_,rfl,rfl,⟨gp,gb⟩,_,rfl,_,rfl,_,_,rfl,rfl,⟨gp,gb⟩,lu,fun p hp=>k p hp⟩
 ·refine cq (by omega) ?_
  refine⟨_,fun _ _ z=>z,?_⟩
  refine⟨_,rfl,_,rfl,_,rfl,_,_,rfl,rfl,(by omega),_,_,rfl,?_⟩
  refine⟨_,?_,y,x % y,rfl,rfl,hy,Int.emod_nonneg _ c,?_,rfl⟩
  ·have:=Int.emod_lt_of_pos x (show 0 < y by omega)
   have:=Int.emod_nonneg x c
   omega
  ·rw [l8 hx (by omega),hg]
theorem zj (T:eK K mg t):bh P w K mg base dC 2 t.a_Q26 t.d_Q26 ["_law_one", "_law_other"] (lJ K):=by
 refine T.F_Q26.ok xX (fun vs H Q E h=>?_) (fun cdv A outer s H vs Q E hr h=>?_)
 ·obtain⟨_,_,_,_,_,_,rfl,_⟩:=h;rfl
 obtain⟨v,w,r,q,n,m,rfl,hv,hw,wr,wq,hz,k⟩:=h
 refine df.ok (ak (aT (dr (kF T) hr T.m_Q25 T.F_Q25.kp T.b_Q25 (aa (aA cj (aA bF (bW aH (qv 0) ah) (bW aH (qv 1) ah)) (aA bF (bW aH (qv 1) ah) (bW aH (qv 0) ah))) (aa (aA bF (bW aH (qv 0) ah) (bW aH (qv 1) ah)) af aP) aP)))) ?_
 extract_lets +lift
 try dsimp -zeta -zetaDelta only [Cx.nox,Cx.wish,bO]
 obtain⟨p,rfl,hv⟩:=hv
 obtain⟨p',rfl,hw⟩:=hw
 have c1:=aW wr.top (show n≤4000 by omega)
 have c2:=aW wr.bot (show n≤4000 by omega)
 have c3:=aW wq.top (show m≤4000 by omega)
 have c4:=aW wq.bot (show m≤4000 by omega)
 refine⟨_,rfl,p,_,_,_,rfl,rfl,hv,rfl,_,rfl,p',_,_,_,rfl,rfl,hw,rfl,_,_,rfl,rfl,⟨c1,c4⟩,_,rfl,p',_,_,_,rfl,rfl,hw,rfl,_,rfl,p,_,_,_,rfl,rfl,hv,rfl,_,_,rfl,rfl,⟨c3,c2⟩,_,_,rfl,rfl,_,rfl,p,_,_,_,rfl,rfl,hv,rfl,_,rfl,p',_,_,_,rfl,rfl,hw,rfl,_,_,rfl,rfl,⟨c2,c4⟩,_,_,rfl,Int.mul_pos wr.pos wq.pos,aW (gK wr.bot wq.bot) (by omega),k⟩
theorem zn (T:eK K mg t):bh P w K mg base dC 2 t.a_Q20 t.d_Q20 ["_law_one", "_law_other"] (ke K):=by
 refine T.F_Q20.ok xZ (fun vs H Q E h=>?_) (fun cdv A outer s H vs Q E hr h=>?_)
 ·obtain⟨_,_,_,_,_,_,rfl,_⟩:=h;rfl
 obtain⟨v,w,r,q,n,m,rfl,hv,hw,wr,wq,hz,k⟩:=h
 refine df.ok (ak (aT (dr (kF T) hr T.m_Q25 T.F_Q25.kp T.b_Q25 (aa (aA bF (bW aH (qv 0) ah) (bW aH (qv 1) ah)) (aa (aA bF (bW aH (qv 0) ah) (bW aH (qv 1) ah)) af aP) aP)))) ?_
 extract_lets +lift
 try dsimp -zeta -zetaDelta only [Cx.nox,Cx.wish,bO]
 obtain⟨p,rfl,hv⟩:=hv
 obtain⟨p',rfl,hw⟩:=hw
 have c1:=aW wr.top (show n≤4000 by omega)
 have c2:=aW wr.bot (show n≤4000 by omega)
 have c3:=aW wq.top (show m≤4000 by omega)
 have c4:=aW wq.bot (show m≤4000 by omega)
 refine⟨_,rfl,p,_,_,_,rfl,rfl,hv,rfl,_,rfl,p',_,_,_,rfl,rfl,hw,rfl,_,_,rfl,rfl,⟨c1,c3⟩,_,rfl,p,_,_,_,rfl,rfl,hv,rfl,_,rfl,p',_,_,_,rfl,rfl,hw,rfl,_,_,rfl,rfl,⟨c2,c4⟩,_,_,rfl,Int.mul_pos wr.pos wq.pos,aW (gK wr.bot wq.bot) (by omega),k⟩
theorem zh (T:eK K mg t):bh P w K mg base dC 2 t.a_Q30 t.d_Q30 ["_law_one", "_law_other"] (pH K):=by
 refine T.F_Q30.ok xW (fun vs H Q E h=>?_) (fun cdv A outer s H vs Q E hr h=>?_)
 ·obtain⟨_,_,_,_,rfl,_⟩:=h;rfl
 obtain⟨v,w,r,z,rfl,hv,hw,wr,z0,Ax,k⟩:=h
 refine df.ok (ak (aT (dr (kF T) hr T.m_Q25 T.F_Q25.kp T.b_Q25 (aa (aA bF (bW aH (qv 0) ah) (bW aH (qv 1) ah)) (aa (aA bF (bW aH (qv 0) ah) (bW aH (qv 1) ah)) af aP) aP)))) ?_
 extract_lets +lift
 try dsimp -zeta -zetaDelta only [Cx.nox,Cx.wish,bO]
 obtain⟨p,rfl,hv⟩:=hv
 obtain⟨p',rfl,hw⟩:=hw
 have c1:=aW wr.top (show 60≤4000 by omega)
 have c2:=aW wr.bot (show 60≤4000 by omega)
 have c3:z.natAbs < 2 ^ 4000:=Nat.lt_of_le_of_lt (show z.natAbs≤200 by omega) (by decide)
 have c4:(1:Int).natAbs < 2 ^ 4000:=by decide
 have z5:z.natAbs < 2 ^ 8:=Nat.lt_of_le_of_lt (show z.natAbs≤200 by omega) (by decide)
 exact⟨_,rfl,p,_,_,_,rfl,rfl,hv,rfl,_,rfl,p',_,_,_,rfl,rfl,hw,rfl,_,_,rfl,rfl,⟨c1,c4⟩,_,rfl,p,_,_,_,rfl,rfl,hv,rfl,_,rfl,p',_,_,_,rfl,rfl,hw,rfl,_,_,rfl,rfl,⟨c2,c3⟩,_,_,rfl,Int.mul_pos wr.pos z0,aW (gK wr.bot z5) (by omega),k⟩
theorem zm (T:eK K mg t):bh P w K mg base dC 3 t.a_Q21 t.d_Q21 ["_law_some"] (kd K):=by
 refine T.F_Q21.ok kq (fun vs H Q E h=>?_) (fun cdv A outer s H vs Q E hr h=>?_)
 ·obtain⟨_,_,_,rfl,_⟩:=h;rfl
 obtain⟨a,xs,rs,rfl,hS,al,bq,hl,k⟩:=h
 refine df.ok (ac (bT 1 kq.nd (cF (aa ah (aa ah af aK) aK)))
   (ac (cf PassesOwn.never rfl (aX (qv 0)) (aB (i:=2) kq.nd rfl (by first | exact Or.inl rfl | exact Or.inr rfl))
   (ak (bT 1 kq.nd (dr (zj T) hr T.m_Q26 T.F_Q26.kp T.b_Q26 (aa (qv 1) (aa (qv 2) af ad) ad)))))
   (ak (aT (qv 1))))) ?_
 extract_lets +lift
 try dsimp -zeta -zetaDelta only [Cx.nox,Cx.wish,bO]
 have hlen:=al.len
 refine⟨lu,fun p0 hp0=>?_⟩
 have s0:=ai hp0 (.tup [.int 0,.int 1])
 let Iv1:Nat->L2.St->Hp->Prop:=fun i σ H'=>∃ (u:V) (x3:Option V),σ=[some (.ref a),some u,x3]/\az H H'/\RV K H' u (dD (rs.take i))
 refine⟨_,rfl,a,rfl,⟨_,s0.seq hS⟩,cJ (K:=K) (a:=a) (xs:=xs) Iv1 ⟨_,none,rfl,s0,RV.of ae⟩ (fun i σ H1 _ ⟨_,_,_,s1,_⟩=>s1.seq hS) ?_ ?_⟩
 ·rintro i y σ H1 hi ⟨u,x3,rfl,s1,ru⟩
  obtain⟨r,hr,rv⟩:=al.at hi
  have br:=bq r (List.mem_of_getElem? hr)
  have hil:=(List.getElem?_eq_some_iff.mp hr).1
  have wu:Wf 800 (dD (rs.take i)):=w8 ((ip (N:=12) (by decide) fun x hx=>bq x (List.mem_of_mem_take hx)).mono (Nat.dvd_refl _) (by rw [List.length_take];omega))
  have wr:Wf 800 r:=w8 (br.mono (Nat.dvd_refl _) (by decide))
  refine⟨_,rfl,_,rfl,u,y,dD (rs.take i),r,800,800,rfl,ru,rv.mono (be.same s1),wu,wr,by decide,fun p hp=>?_⟩
  have s2:=ai hp (.tup [.int (bU (dD (rs.take i)) r).1,.int (bU (dD (rs.take i)) r).2])
  refine⟨_,_,rfl,s1.trans s2,?_⟩
  rw [qJ hr]
  exact RV.of ae
 ·rintro σ H1 ⟨u,x3,rfl,s1,ru⟩
  rw [hlen,List.take_length] at ru
  exact⟨_,rfl,k u H1 s1 ru⟩
theorem zk (T:eK K mg t):bh P w K mg base dC 2 t.a_Q22 t.d_Q22 ["_law_tape", "_law_most", "_law_turns"] (kb K):=by
 refine T.F_Q22.ok dj (fun vs H Q E h=>?_) (fun cdv A outer s H vs Q E hr h=>?_)
 ·obtain⟨_,_,_,_,rfl,_⟩:=h;rfl
 obtain⟨t₁,l,mo,tu,rfl,tb,m0,m20,u1,u24,k⟩:=h
 refine df.ok (ac (bT 3 dj.nd (bP af))
   (ac (cf PassesOwn.never rfl (bx rfl T.z_range (aa (dr (dF T) hr T.m_Q24 T.F_Q24.kp T.b_Q24 (aa (qv 0) (aa (aA cj (qv 1) ah) af aP) ad)) af aG)) (aB (i:=4) dj.nd rfl (by first | exact Or.inl rfl | exact Or.inr rfl))
   (ac (bT 5 dj.nd (dr (dF T) hr T.m_Q24 T.F_Q24.kp T.b_Q24 (aa (qv 0) (aa ah af aK) ad)))
   (ac (bT 6 dj.nd (dr (dF T) hr T.m_Q24 T.F_Q24.kp T.b_Q24 (aa (qv 0) (aa (qv 2) af ad) ad)))
   (ac (bT 7 dj.nd (aA cj (qv 6) (dr (dF T) hr T.m_Q24 T.F_Q24.kp T.b_Q24 (aa (qv 0) (aa (aA cG (qv 2) (qv 6)) af aP) ad))))
   (ac (iQ (cE (aN gZ (qv 5) ah (aV _)) (ak (bT 7 dj.nd (qv 6))) bK))
   (ac (iQ (cE (se (sf (aN gZ (qv 5) ah (aV _)) (oE (aN (nB hr) (qv 3) (bP af) (aV _))))) (ak (nh (eW qS (bW aL (qv 3) (dr (dF T) hr T.m_Q24 T.F_Q24.kp T.b_Q24 (aa (qv 0) (aa (aD aC (by rfl) T.z_len boot_len (aa (qv 3) af ad)) af aG) ad))) gs (gm ah)) (nj rfl (b8 (aB (i:=6) dj.nd rfl (by first | exact Or.inl rfl | exact Or.inr rfl)) (b8 (aB (i:=7) dj.nd rfl (by first | exact Or.inl rfl | exact Or.inr rfl)) fm))))) bK))
   (ac (bT 8 dj.nd (cF (aa (aA cj ah (dr (dF T) hr T.m_Q24 T.F_Q24.kp T.b_Q24 (aa (qv 0) (aa ah af aK) ad))) (aa (bW aL (bP (aa ah (aa ah (aa ah (aa ah (aa ah (aa ah af aK) aK) aK) aK) aK) aK)) (dr (dF T) hr T.m_Q24 T.F_Q24.kp T.b_Q24 (aa (qv 0) (aa ah af aK) ad))) af aS) aP)))
   (ac (iQ (cE (se (sf (aN gZ (qv 5) ah (aV _)) (oE (aN (nB hr) (qv 3) (bP af) (aV _))))) (ak (bT 8 dj.nd (bW aH (bW aL (qv 3) (dr (dF T) hr T.m_Q24 T.F_Q24.kp T.b_Q24 (aa (qv 0) (aa (aD aC (by rfl) T.z_len boot_len (aa (qv 3) af ad)) af aG) ad))) ah))) bK))
   (ak (da (iS PySem.F.plainAttrs_list PySem.F.slot_list_append PySem.F.type_list_append ck (qv 3) (aa (cF (aa (qv 6) (aa (qv 7) (aa (dr (kF T) hr T.m_Q25 T.F_Q25.kp T.b_Q25 (aa (bW aH (qv 8) ah) (aa (bW aH (qv 8) ah) af aS) aS)) af aG) ad) ad)) af gc))))))))))))
   (ak (aT (cO dI (by rfl) T.z_tuple boot_tuple (aa (qv 3) af ad)))))) ?_
 extract_lets +lift
 try dsimp -zeta -zetaDelta only [Cx.nox,Cx.wish,bO]
 refine⟨(by show 0≤sizeLine;exact Nat.zero_le _),fun lw hlw=>?_⟩
 have s1:=ai hlw (.lst [])
 have nt:lw≠t₁:=fun z=>by obtain⟨ys,e⟩:=tb.lst;rw [← z,hlw] at e;cases e
 have nl:lw≠l:=fun z=>by obtain⟨ys,e⟩:=tb.lst';rw [← z,hlw] at e;cases e
 have W1:Wl K H t₁ l lw (ax H lw (.lst [])) []:=⟨mr.of s1,tb.same s1,⟨[],ae,.nil⟩,nt,nl,hlw,fun w h=>by cases h⟩
 generalize ax H lw (.lst [])=H1 at W1 ⊢
 refine⟨_,rfl,_,rfl,_,_,rfl,rfl,t₁,l,mo+1,rfl,W1.tb,by omega,by omega,fun r2 x2 a2 b2 tb2=>?_⟩
 have W2:=W1.tape tb2
 generalize ax H1 t₁ (.lst x2)=H2 at W2 ⊢
 obtain⟨m,rfl⟩:=Int.eq_ofNat_of_zero_le a2
 let Iv1:Nat->L2.St->Hp->Prop:=fun i σ H'=>∃ (x4 x5 x6 x7 x8:Option V) (ws:List Wk),σ=[some (.ref t₁),some (.int mo),some (.int tu),some (.ref lw),x4,x5,x6,x7,x8]/\Wl K H t₁ l lw H' ws/\ws.length=i
 refine⟨m,rfl,by omega,by omega,cA (lo:=0) (n:=(m:Int).toNat) Iv1 ⟨none,none,none,none,none,[],rfl,W2,rfl⟩ ?_ ?_⟩
 ·rintro i σ H3 hi ⟨x4,x5,x6,x7,x8,ws,rfl,W3,wl⟩
  refine⟨_,rfl,t₁,l,6,rfl,W3.tb,by omega,by omega,fun rw_ x5' a5 b5 tb5=>?_⟩
  have W5:=W3.tape tb5
  generalize ax H3 t₁ (.lst x5')=H5 at W5 ⊢
  refine⟨_,rfl,_,rfl,t₁,l,tu,rfl,W5.tb,by omega,by omega,fun rf x6' a6 b6 tb6=>?_⟩
  have W6:=W5.tape tb6
  generalize ax H5 t₁ (.lst x6')=H6 at W6 ⊢
  refine⟨_,rfl,_,rfl,_,rfl,_,rfl,_,_,rfl,rfl,t₁,l,tu - rf,rfl,W6.tb,by omega,by omega,fun rl x7' a7 b7 tb7=>?_⟩
  have W7:=W6.tape tb7
  generalize ax H6 t₁ (.lst x7')=H7 at W7 ⊢
  refine⟨_,_,rfl,rfl,?_⟩
  refine⟨fun σ H'=>∃ (f g:Int),σ=[some (.ref t₁),some (.int mo),some (.int tu),some (.ref lw),some (.int (0+(i:Nat))),some (.int rw_),some (.int f),some (.int g),x8]/\H'=H7/\0≤f/\f≤g/\g < 24,?_,?_⟩
  ·refine⟨_,rfl,rfl,_,rfl,?_⟩
   by_cases c:rw_=0
   ·refine cq (by rw [c]) ?_
    exact⟨_,rfl,rf,rf,rfl,rfl,a6,Int.le_refl _,by omega⟩
   ·refine ca (fun z=>by injection z with z;exact c z) ?_
    exact⟨rf,rf+rl,rfl,rfl,a6,by omega,by omega⟩
  rintro σ H7' ⟨f,g,rfl,rfl,f0,fg,g24⟩
  clear a7 b7 a6 b6 rf rl a5 b5
  refine⟨fun σ H'=>∃ (f g:Int),σ=[some (.ref t₁),some (.int mo),some (.int tu),some (.ref lw),some (.int (0+(i:Nat))),some (.int rw_),some (.int f),some (.int g),x8]/\Wl K H t₁ l lw H' ws/\0≤f/\f≤g/\g < 24,?_,?_⟩
  ·refine⟨_,rfl,rfl,_,rfl,?_⟩
   by_cases c:rw_=1
   rotate_left
   ·refine ca (fun z=>by injection z with z;exact c z) (ib ?_)
    exact⟨f,g,rfl,W7,f0,fg,g24⟩
   refine cq (by rw [c]) ?_
   refine⟨_,rfl,(by show 0≤sizeLine;exact Nat.zero_le _),fun pe hpe=>?_⟩
   have z8:=ai hpe (.lst [])
   have W8:=W7.same z8
   have e8:ax H7' pe (.lst []) pe=some (.lst []):=ae
   generalize ax H7' pe (.lst [])=H8 at W8 e8 ⊢
   obtain⟨zs,ez,alz⟩:=W8.hw
   refine⟨.list (ws.map uN),.list [],.lst (aF.of ez) (alz.deep fun _ _ q=>q.deep),.lst (aF.of e8) .nil,tU ws,rfl,ux ws,_,rfl,?_⟩
   have ev:PyData.eqv (.list (ws.map uN)) (.list [])=ws.isEmpty:=by cases ws <;> rfl
   rw [ev]
   by_cases hw:ws=[]
   ·refine t6 (b:=!ws.isEmpty) (by rw [hw];rfl) ?_
    exact⟨f,g,rfl,W8,f0,fg,g24⟩
   ·have wl1:0 < ws.length:=List.length_pos_iff.mpr hw
    have lz:=alz.len
    refine t4 (b:=!ws.isEmpty) (by rw [Bool.not_eq_true',List.isEmpty_eq_false_iff];exact hw) ?_
    refine⟨_,rfl,_,rfl,_,rfl,lw,_,rfl,.inl (aF.of ez),t₁,l,zs.length,rfl,W8.tb,by omega,by omega,fun r9 x9 a9 b9 tb9=>?_⟩
    have W9:=W8.tape tb9
    generalize ax H8 t₁ (.lst x9)=H9 at W9 ⊢
    obtain⟨zs9,ez9,al9⟩:=W9.hw
    have lz9:=al9.len
    obtain⟨n,rfl⟩:=Int.eq_ofNat_of_zero_le a9
    obtain⟨xw,hxw⟩:∃ xw,zs9[n]?=some xw:=⟨_,List.getElem?_eq_getElem (by omega)⟩
    obtain⟨w,hwd,pw,xa,rfl,hSw,rw9⟩:=al9.at hxw
    have gw:=W9.gd w (List.mem_of_getElem? hwd)
    refine⟨lw,_,_,_,rfl,rfl,aF.of ez9,aJ hxw,_,rfl,pw,_,rfl,hSw,(by show ¬ (HT.sIx 3 0 none=0/\HT.sIx 3 3 (some 2)=3);decide),fun q hq=>?_⟩
    have W10:=W9.same (ai hq (.tup [.int (w.1:Nat),.int (w.2.1:Nat)]))
    exact⟨q,_,rfl,bS.of ae,rfl,_,_,rfl,_,_,rfl,rfl,w.1,w.2.1,rfl,W10,by omega,by have:=gw.1;omega,by have:=gw.2.1;omega⟩
  rintro σ H8 ⟨f,g,rfl,W8,f0,fg,g24⟩
  refine⟨_,rfl,t₁,l,12,rfl,W8.tb,by omega,by omega,fun r9 x9 a9 b9 tb9=>?_⟩
  have W9:=W8.tape tb9
  generalize ax H8 t₁ (.lst x9)=H9 at W9 ⊢
  refine⟨_,_,rfl,rfl,DF,fun pg hpg=>?_⟩
  have e10:ax H9 pg (.lst [.int 1,.int 1,.int 2,.int 3,.int 4,.int 7]) pg=some (.lst [.int 1,.int 1,.int 2,.int 3,.int 4,.int 7]):=ae
  have ng:pg≠t₁:=fun z=>by obtain⟨ys,e⟩:=W9.tb.lst;rw [← z,hpg] at e;cases e
  have W10:=W9.same (ai hpg (.lst [.int 1,.int 1,.int 2,.int 3,.int 4,.int 7]))
  generalize ax H9 pg (.lst [.int 1,.int 1,.int 2,.int 3,.int 4,.int 7])=H10 at e10 W10 ⊢
  refine⟨_,rfl,t₁,l,6,rfl,W10.tb,by omega,by omega,fun r4 x4' a4 b4 tb11=>?_⟩
  have e11:ax H10 t₁ (.lst x4') pg=some (.lst [.int 1,.int 1,.int 2,.int 3,.int 4,.int 7]):=by rw [aj ng];exact e10
  have W11:=W10.tape tb11
  generalize ax H10 t₁ (.lst x4')=H11 at e11 W11 ⊢
  obtain⟨q,hg,q0,q7,q84⟩:∃ q:Int,mC [V.int 1,.int 1,.int 2,.int 3,.int 4,.int 7] r4=some (.int q)/\1≤q/\q≤7/\q∣84:=by
   rcases (show r4=0∨r4=1∨r4=2∨r4=3∨r4=4∨r4=5 by omega) with rfl | rfl | rfl | rfl | rfl | rfl
   ·exact⟨1,rfl,by decide,by decide,by decide⟩
   ·exact⟨1,rfl,by decide,by decide,by decide⟩
   ·exact⟨2,rfl,by decide,by decide,by decide⟩
   ·exact⟨3,rfl,by decide,by decide,by decide⟩
   ·exact⟨4,rfl,by decide,by decide,by decide⟩
   ·exact⟨7,rfl,by decide,by decide,by decide⟩
  refine⟨pg,_,_,_,rfl,rfl,aF.of e11,hg,lu,fun pm hpm=>?_⟩
  have W12:=W11.same (ai hpm (.tup [.int (1+r9),.int q]))
  have p12:Ds K (ax H11 pm (.tup [.int (1+r9),.int q])) (.ref pm) (1+r9) q:=⟨pm,rfl,bS.of ae⟩
  generalize ax H11 pm (.tup [.int (1+r9),.int q])=H12 at W12 p12 ⊢
  refine⟨fun σ H'=>∃ (u:V) (x y:Int),σ=[some (.ref t₁),some (.int mo),some (.int tu),some (.ref lw),some (.int (0+(i:Nat))),some (.int rw_),some (.int f),some (.int g),some u]/\Wl K H t₁ l lw H' ws/\Ds K H' u x y/\1≤x/\1≤y/\y∣84/\x≤12 * y,?_,?_⟩
  ·refine⟨_,rfl,rfl,_,rfl,?_⟩
   by_cases c:rw_=2
   rotate_left
   ·refine ca (fun z=>by injection z with z;exact c z) (ib ?_)
    exact⟨_,_,_,rfl,W12,p12,by omega,q0,q84,by omega⟩
   refine cq (by rw [c]) ?_
   refine⟨_,rfl,(by show 0≤sizeLine;exact Nat.zero_le _),fun pe hpe=>?_⟩
   have z8:=ai hpe (.lst [])
   have W13:=W12.same z8
   have e8:ax H12 pe (.lst []) pe=some (.lst []):=ae
   have p13:Ds K (ax H12 pe (.lst [])) (.ref pm) (1+r9) q:=by
    obtain⟨p',e',s'⟩:=p12
    exact⟨p',e',be.same (K:=K) z8 _ _ s'⟩
   generalize ax H12 pe (.lst [])=H13 at W13 e8 p13 ⊢
   obtain⟨zs,ez,alz⟩:=W13.hw
   refine⟨.list (ws.map uN),.list [],.lst (aF.of ez) (alz.deep fun _ _ q=>q.deep),.lst (aF.of e8) .nil,tU ws,rfl,ux ws,_,rfl,?_⟩
   have ev:PyData.eqv (.list (ws.map uN)) (.list [])=ws.isEmpty:=by cases ws <;> rfl
   rw [ev]
   by_cases hw:ws=[]
   ·refine t6 (b:=!ws.isEmpty) (by rw [hw];rfl) ?_
    exact⟨_,_,_,rfl,W13,p13,by omega,q0,q84,by omega⟩
   ·have wl1:0 < ws.length:=List.length_pos_iff.mpr hw
    have lz:=alz.len
    refine t4 (b:=!ws.isEmpty) (by rw [Bool.not_eq_true',List.isEmpty_eq_false_iff];exact hw) ?_
    refine⟨_,rfl,_,rfl,_,rfl,lw,_,rfl,.inl (aF.of ez),t₁,l,zs.length,rfl,W13.tb,by omega,by omega,fun rE xE aE bE tbE=>?_⟩
    have WE:=W13.tape tbE
    generalize ax H13 t₁ (.lst xE)=HE at WE ⊢
    obtain⟨zsE,ezE,alE⟩:=WE.hw
    have lzE:=alE.len
    obtain⟨n,rfl⟩:=Int.eq_ofNat_of_zero_le aE
    obtain⟨xw,hxw⟩:∃ xw,zsE[n]?=some xw:=⟨_,List.getElem?_eq_getElem (by omega)⟩
    obtain⟨w,hwd,pw,xa,rfl,hSw,rwE⟩:=alE.at hxw
    have gw:=WE.gd w (List.mem_of_getElem? hwd)
    refine⟨lw,_,_,_,rfl,rfl,aF.of ezE,aJ hxw,pw,_,_,_,rfl,rfl,hSw,rfl,?_⟩
    have b1:=gw.2.2.1.pos
    have b2:=gw.2.2.1.le
    have b3:=gw.2.2.2
    exact⟨xa,_,_,rfl,WE,rwE,by omega,by omega,gw.2.2.1.dvd,by omega⟩
  rintro σ HE ⟨u,x,y,rfl,WE,⟨pu,rfl,hSu⟩,x1,y1,y84,xy⟩
  refine⟨_,rfl,.inl ⟨rfl,_,aF.of WE.hw.choose_spec.1⟩,_,rfl,_,rfl,_,rfl,pu,_,_,_,rfl,rfl,hSu,rfl,_,rfl,pu,_,_,_,rfl,rfl,hSu,rfl,x,y,rfl,by omega,(by have:=Int.le_of_dvd (by decide) y84;exact Nat.lt_of_le_of_lt (show y.natAbs≤84 by omega) (by decide)),fun pn hpn=>?_⟩
  have am:Bq 84 12 (cX x y):=oZ (by omega) y84 (by omega)
  have ap:=tT (a:=x) (b:=y) x1 y1
  generalize cX x y=ra at am ap ⊢
  have WF:=WE.same (ai hpn (.tup [.int ra.1,.int ra.2]))
  have rF:RV K (ax HE pn (.tup [.int ra.1,.int ra.2])) (.ref pn) ra:=RV.of ae
  generalize ax HE pn (.tup [.int ra.1,.int ra.2])=HF at WF rF ⊢
  refine⟨EH,fun po hpo=>?_⟩
  have zG:=ai hpo (.tup [.int f,.int g,.ref pn])
  have WG:=WF.same zG
  have rG:=rF.mono (be.same zG)
  have qG:ax HF po (.tup [.int f,.int g,.ref pn]) po=some (.tup [.int f,.int g,.ref pn]):=ae
  generalize ax HF po (.tup [.int f,.int g,.ref pn])=HG at WG rG qG ⊢
  obtain⟨zs,ez,alz⟩:=WG.hw
  have lz:=alz.len
  refine⟨lw,_,_,rfl,rfl,ez,aZ (by omega),?_⟩
  obtain⟨f',rfl⟩:=Int.eq_ofNat_of_zero_le f0
  obtain⟨g',rfl⟩:=Int.eq_ofNat_of_zero_le (show 0≤g by omega)
  exact⟨_,_,_,_,_,ws++[(f',g',ra)],rfl,WG.push ez alz ⟨po,.ref pn,rfl,bS.of qG,rG⟩ ⟨by show f'≤g';omega,by show g' < 24;omega,am,ap⟩,by rw [List.length_append,wl];rfl⟩
 ·rintro σ H3 ⟨x4,x5,x6,x7,x8,ws,rfl,W3,wl⟩
  obtain⟨zs,e,al⟩:=W3.hw
  refine⟨_,rfl,lw,zs,rfl,.inl ⟨aF.of e,fun pt hpt=>?_⟩⟩
  have z:=ai hpt (.tup zs)
  exact k _ ws _ (W3.st.trans (mr.of z)) (W3.tb.same z) ⟨pt,zs,rfl,bS.of ae,al.mono fun _ _ q=>q.mono (be.same z)⟩ (by omega) W3.gd
theorem tK (T:eK K mg t):bh P w K mg base dC 1 t.a_Q27 t.d_Q27 ["_law_works_here", "_law_some", "_law_rooms"] (lM K):=by
 refine T.F_Q27.ok ko (fun vs H Q E h=>?_) (fun cdv A outer s H vs Q E hr h=>?_)
 ·obtain⟨_,_,_,_,_,_,rfl,_⟩:=h;rfl
 obtain⟨v,a,b,ws,L,fr,rfl,wv,hA,l20,hlt,hB,f24,k⟩:=h
 refine df.ok (ac (bT 3 ko.nd (bP af))
   (ac (cf PassesOwn.never rfl (bx rfl T.z_range (aa (aD aC (by rfl) T.z_len boot_len (aa (qv 2) af ad)) af aG)) (aB (i:=4) ko.nd rfl (by first | exact Or.inl rfl | exact Or.inr rfl))
   (ac (bT 5 ko.nd (aD aC (by rfl) T.z_len boot_len (aa (aU (N':=["_law_j", "_law_turn", "_law_works_here"]) (src:=[none,some 4,some 0]) rfl (by exact (aX (qv 1))) (fun _ _ _ _ _=>(by exact (by exact aB (i:=0) (by show List.Nodup (["_law_j", "_law_turn", "_law_works_here"]:List Str);decide +kernel) (by exact rfl) (by first | exact Or.inl rfl | exact Or.inr rfl)))) (fun _ _ _ _ _=>(cD (sg oJ oJ (by exact (bu (cm (K:=K) (by exact rfl)) (by exact (bu (cm (K:=K) (by exact rfl)) (by exact (qv 2)) (by exact (qv 0)) (by exact fun _ _=>rfl))) ah (by exact fun _ _=>rfl))) (by exact (qv 1)) (by exact (bu (cm (K:=K) (by exact rfl)) (by exact (bu (cm (K:=K) (by exact rfl)) (by exact (qv 2)) (by exact (qv 0)) (by exact fun _ _=>rfl))) ah (by exact fun _ _=>rfl)))))) (fun _ _ _ _ _=>(by exact (by exact (qv 0)))) (by exact⟨rfl,rfl,rfl,rfl,⟨rfl,rfl,rfl,rfl,trivial⟩⟩) rfl (by decide +kernel) rfl (by decide +kernel) (by exact aQ rfl ⟨rfl,⟨rfl,trivial⟩⟩)) af c8)))
   (ak (da (iS PySem.F.plainAttrs_list PySem.F.slot_list_append PySem.F.type_list_append ck (qv 3) (aa (aD (jV rfl) (by rfl) T.z_min boot_min (aa (qv 5) (aa (bW aL (qv 2) (qv 4)) af aS) ad)) af aG))))))
   (ak (aT (qv 3))))) ?_
 extract_lets +lift
 try dsimp -zeta -zetaDelta only [Cx.nox,Cx.wish,bO]
 obtain⟨pw,xs,rfl,hS,al⟩:=id wv
 have hlen:=al.len
 refine⟨(by show 0≤sizeLine;exact Nat.zero_le _),fun lf hlf=>?_⟩
 have s1:=ai hlf (.lst [])
 have e1:ax H lf (.lst []) lf=some (.lst (av ((bX (gW ws L) fr).take 0))):=ae
 generalize ax H lf (.lst [])=H1 at s1 e1 ⊢
 have fl:(av fr).length=24:=by unfold av;rw [List.length_map,f24]
 have ll:(av L).length=L.length:=List.length_map _
 have bl:(bX (gW ws L) fr).length=24:=by unfold bX;rw [List.length_map,List.length_range,f24]
 let Iv1:Nat->L2.St->Hp->Prop:=fun i σ H'=>∃ (x4 x5:Option V),σ=[some (.ref pw),some (.ref a),some (.ref b),some (.ref lf),x4,x5]/\(∀ c o,c≠lf->H1 c=some o->H' c=some o)/\H' lf=some (.lst (av ((bX (gW ws L) fr).take i)))
 refine⟨_,rfl,b,_,rfl,.inl (s1.seq hB),_,rfl,by omega,by omega,cA (lo:=0) (n:=(((av fr).length:Nat):Int).toNat) Iv1 ⟨none,none,rfl,fun _ _ _ e=>e,e1⟩ ?_ ?_⟩
 ·rintro i σ H2 hi ⟨x4,x5,rfl,k2,e2⟩
  rw [Int.zero_add]
  have i24:i < 24:=by omega
  have s2:az H H2:=fun c o e=>k2 c o (ay e hlf) (s1 _ _ e)
  refine⟨_,rfl,a,rfl,⟨_,s2.seq hA⟩,fun D hD=>bn (c7 (s2.seq hA)) (fun p=>fL (ws.getD (L.getD p 0) cC) i) (fun p=>V.int ((L.getD p 0:Nat):Int)) hD (by omega) (fun p y H' hp s' hy R E kR kE=>?_) fun H3 s3 h3=>?_⟩
  ·obtain⟨j,hj,rfl⟩:=bZ hy
   have jl:=hlt j (List.mem_of_getElem? hj)
   obtain⟨xw,hxw⟩:∃ xw,xs[j]?=some xw:=⟨_,List.getElem?_eq_getElem (by omega)⟩
   obtain⟨w,hw,pj,am,rfl,hpj,ram⟩:=al.at hxw
   rw [aq 0 hj,aq cC hw] at kR kE
   have t':=be.same (K:=K) (s2.trans s')
   refine⟨dM.set rfl,_,rfl,_,rfl,pw,_,_,_,rfl,rfl,t' _ _ hS,aJ hxw,pj,_,_,_,rfl,rfl,t' _ _ hpj,rfl,_,rfl,_,_,rfl,rfl,_,rfl,?_⟩
   by_cases c:w.1≤i
   ·refine cq (by omega) ?_
    refine⟨_,rfl,_,rfl,pw,_,_,_,rfl,rfl,t' _ _ hS,aJ hxw,pj,_,_,_,rfl,rfl,t' _ _ hpj,rfl,_,_,rfl,rfl,_,rfl,?_⟩
    by_cases c2:i≤w.2.1
    ·exact cq (by omega) ⟨_,rfl,kR (fq.mpr ⟨c,c2⟩) _ (az.refl _)⟩
    ·exact ca (by omega) (kE (by cases z:fL w i with | true=>exact absurd (fq.mp z).2 c2 | false=>rfl) _ (az.refl _))
   ·refine ca (by omega) ⟨_,rfl,ib ?_⟩
    exact kE (by cases z:fL w i with | true=>exact absurd (fq.mp z).1 c | false=>rfl) _ (az.refl _)
  rw [ll] at h3
  have e3:=s3 _ _ e2
  have cn:(((List.range L.length).filter fun p=>fL (ws.getD (L.getD p 0) cC) i).map fun p=>V.int ((L.getD p 0:Nat):Int)).length=bD (gW ws L) i:=by
   have e:=d6 0 (fun j=>fL (ws.getD j cC) i) (fun j:Nat=>V.int (j:Int)) L
   rw [e,List.length_map]
   unfold bD gW
   rw [List.filter_map,List.length_map]
   rfl
  have fi:(av fr)[i]?=some (.int ((fr.getD i 0:Nat):Int)):=by
   unfold av
   rw [List.getElem?_map,List.getElem?_eq_getElem (by omega:i < fr.length),aq 0 (List.getElem?_eq_getElem (by omega:i < fr.length))]
   rfl
  refine⟨D,_,rfl,.inl (aF.of h3),?_⟩
  refine⟨_,rfl,.inl ⟨rfl,_,aF.of e3⟩,_,rfl,_,rfl,_,rfl,b,_,_,_,rfl,rfl,(s2.trans s3).seq hB,aJ fi,_,_,rfl,lf,_,_,rfl,rfl,e3,aZ (by unfold av;rw [List.length_map,List.length_take];omega),?_⟩
  refine⟨_,_,rfl,fun c o nc e=>by rw [aj nc];exact s3 _ _ (k2 c o nc e),?_⟩
  rw [ae,cn]
  have ei:(bX (gW ws L) fr)[i]?=some (min (fr.getD i 0) (bD (gW ws L) i)):=by unfold bX;rw [List.getElem?_map,List.getElem?_range (by omega)];rfl
  have ee:(if ((fr.getD i 0:Nat):Int) < ((bD (gW ws L) i:Nat):Int) then ((fr.getD i 0:Nat):Int) else ((bD (gW ws L) i:Nat):Int))=((min (fr.getD i 0) (bD (gW ws L) i):Nat):Int):=by
   split <;> omega
  rw [ee,List.take_add_one,ei]
  unfold av
  rw [List.map_append]
  rfl
 ·rintro σ H2 ⟨x4,x5,rfl,k2,e2⟩
  rw [show (((av fr).length:Nat):Int).toNat=(bX (gW ws L) fr).length by rw [bl,fl];rfl,List.take_length] at e2
  exact⟨_,rfl,k lf H2 (fun c o e=>k2 c o (ay e hlf) (s1 _ _ e)) hlf e2⟩
theorem zi (T:eK K mg t):bh P w K mg base dC 1 t.a_Q28 t.d_Q28 ["_law_stay"] (lI K):=by
 refine T.F_Q28.ok kn (fun vs H Q E h=>?_) (fun cdv A outer s H vs Q E hr h=>?_)
 ·obtain⟨_,_,rfl,_⟩:=h;rfl
 obtain⟨a,ns,rfl,hA,n6,k⟩:=h
 refine df.ok (ac (bT 1 kn.nd (bP (aa (bP af) af lF)))
   (ac (cf PassesOwn.never rfl (aX (qv 0)) (aB (i:=2) kn.nd rfl (by first | exact Or.inl rfl | exact Or.inr rfl))
   (ak (bT 1 kn.nd (aA kD (qv 1) (aU (N':=["_law_some", "_law_j"]) (src:=[none,some 2]) rfl (by exact (aX (qv 1))) (fun _ _ _ _ _=>(by exact (by exact aB (i:=0) (by show List.Nodup (["_law_some", "_law_j"]:List Str);decide +kernel) (by exact rfl) (by first | exact Or.inl rfl | exact Or.inr rfl)))) (fun _ _ _ _ _=>bJ) (fun _ _ _ _ _=>(by exact (by exact (aA kD (by exact (qv 0)) (by exact (bP (aa (by exact (qv 1)) af ad))))))) (by exact⟨rfl,rfl,rfl,rfl,trivial⟩) rfl (by decide +kernel) rfl (by decide +kernel) (by exact aQ rfl ⟨rfl,trivial⟩))))))
   (ak (aT (eW kl (qv 1) (gm ah) gs))))) ?_
 extract_lets +lift
 try dsimp -zeta -zetaDelta only [Cx.nox,Cx.wish,bO]
 refine⟨(by show 0≤sizeLine;exact Nat.zero_le _),fun p0 hp0=>⟨wN,fun l0 hl0=>?_⟩⟩
 have s1:=ai hp0 (.lst [])
 have s2:=ai hl0 (.lst [.ref p0])
 have e1:ax (ax H p0 (.lst [])) l0 (.lst [.ref p0]) p0=some (.lst (av [])):=s2 _ _ ae
 have e2:ax (ax H p0 (.lst [])) l0 (.lst [.ref p0]) l0=some (.lst [.ref p0]):=ae
 have s12:=s1.trans s2
 generalize ax (ax H p0 (.lst [])) l0 (.lst [.ref p0])=H1 at s12 e1 e2 ⊢
 have nl:(av ns).length=ns.length:=List.length_map _
 let Iv1:Nat->L2.St->Hp->Prop:=fun i σ H'=>∃ (l:Addr) (ys:List V) (x2:Option V),σ=[some (.ref a),some (.ref l),x2]/\az H H'/\H' l=some (.lst ys)/\cQ (Cg H') ys (c5 (ns.take i))
 refine⟨_,rfl,a,rfl,⟨_,s12.seq hA⟩,cJ (K:=K) (a:=a) (xs:=av ns) Iv1 ⟨l0,_,none,rfl,s12,e2,.cons ⟨p0,rfl,e1⟩ .nil⟩ (fun i σ H' _ ⟨_,_,_,_,s',_⟩=>s'.seq hA) ?_ ?_⟩
 ·rintro i x σ H2 hx ⟨l,ys,x2,rfl,s2,e2,al2⟩
  obtain⟨j,hj,rfl⟩:=bZ hx
  have il:=(List.getElem?_eq_some_iff.mp hj).1
  have sl:=al2.len
  have e64:(c5 (ns.take i)).length≤32:=by
   rw [iO rfl,List.length_take,Nat.min_eq_left (by omega)]
   exact Nat.pow_le_pow_right (n:=2) (by decide) (show i≤5 by omega)
  have sml:∀ L∈c5 (ns.take i),L.length≤6:=fun L hL=>by
   have:=((cI rfl).mp hL).length_le
   rw [List.length_take] at this
   omega
  refine⟨_,rfl,_,rfl,l,rfl,⟨_,aF.of e2⟩,fun D hD=>mi (J:=oh K l) (n:=ys.length) (fun i' zs H'=>H' D=some (.lst zs)/\az H2 H'/\cQ (fun v L=>∃ p,v=.ref p/\p≠D/\H' p=some (.lst (av L))) zs (((c5 (ns.take i)).take i').map (·++[j]))) ⟨ae,ai hD _,.nil⟩ (fun i' zs H' hi ⟨_,s',_⟩=>⟨ys,_,aF.of (s' _ _ e2),List.getElem?_eq_getElem hi⟩) (fun zs H' ⟨d',s',al'⟩=>⟨⟨ys,aF.of (s' _ _ e2),Nat.le_refl _⟩,?_⟩) ?_⟩
  ·rw [sl,List.take_length] at al'
   have zl:=al'.len
   rw [List.length_map] at zl
   refine⟨l,D,ys,zs,rfl,rfl,s' _ _ e2,d',(by rw [sizeLine_eq];omega),fun l3 hl3=>?_⟩
   have s3:=ai hl3 (.lst (ys++zs))
   refine⟨l3,_,_,rfl,(s2.trans s').trans s3,ae,?_⟩
   rw [List.take_add_one,hj]
   show cQ _ (ys++zs) (c5 (ns.take i++[j]))
   rw [fk]
   exact cQ.app (al2.mono fun _ _ z=>z.same (s'.trans s3)) (al'.mono fun _ _ ⟨p,e,_,q⟩=>⟨p,e,s3 _ _ q⟩)
  ·rintro i' zs H3 y H4 hi ⟨d3,s3,al3⟩ ⟨rfl,hy⟩ R E kR kE
   have hy:=hy ys (aF.of (s3 _ _ e2))
   obtain⟨L,hL,p,rfl,hp⟩:=al2.at hy
   have lL:=sml L (List.mem_of_getElem? hL)
   refine⟨dM.set rfl,?_⟩
   refine⟨_,rfl,_,rfl,wN,fun q hq=>?_⟩
   have s4:=ai hq (.lst [.int (j:Nat)])
   refine⟨p,q,_,_,rfl,rfl,s4 _ _ (s3 _ _ hp),ae,(by unfold av;rw [List.length_map,sizeLine_eq];show L.length+1≤_;omega),fun r hr=>?_⟩
   have s5:=ai hr (.lst (av L++[.int (j:Nat)]))
   have s45:=s4.trans s5
   have e5:ax (ax H4 q (.lst [.int (j:Nat)])) r (.lst (av L++[.int (j:Nat)])) r=some (.lst (av (L++[j]))):=by rw [ae];unfold av;rw [List.map_append];rfl
   generalize ax (ax H4 q (.lst [.int (j:Nat)])) r (.lst (av L++[.int (j:Nat)]))=H5 at s45 e5 ⊢
   have d5:=s45 _ _ d3
   have nr:r≠D:=fun z=>by
    have:=s4 _ _ d3
    rw [← z,hr] at this
    cases this
   have zl:=al3.len
   rw [List.length_map,List.length_take] at zl
   refine kR (.ref r) H5 d5 (aZ (by omega)) ⟨ae,fun b o e=>by rw [aj (ay e hD)];exact s45 _ _ (s3 _ _ e),?_⟩
   rw [List.take_add_one,hL,List.map_append]
   refine (al3.mono fun _ _ ⟨p,e,n,h⟩=>⟨p,e,n,by rw [aj n];exact s45 _ _ h⟩).snoc ⟨r,rfl,nr,by rw [aj nr];exact e5⟩
 ·rintro σ H2 ⟨l,ys,x2,rfl,s2,e2,al2⟩
  rw [nl,List.take_length] at al2
  obtain⟨t,et,qt⟩:=jF (ns:=ns) rfl
  rw [et] at al2
  cases al2 with
  | @cons y _ ys' _ h tl=>
   refine⟨_,rfl,_,rfl,l,_,rfl,aF.of e2,fun l3 hl3=>?_⟩
   rw [show eP (y :: ys') (some 1) none=ys' from mf (by show 1≤_+1;omega)]
   have s3:=ai hl3 (.lst ys')
   exact k l3 ys' t _ (s2.trans s3) ae (tl.mono fun _ _ z=>z.same s3) et qt
theorem zr (T:eK K mg t):bh P w K mg base dC 4 t.a_Q15 t.d_Q15 ["_law_works_here", "_law_stay", "_law_rooms"] (iI K):=by
 refine T.F_Q15.ok em (fun vs H Q E h=>?_) (fun cdv A outer s H vs Q E hr h=>?_)
 ·obtain⟨_,_,_,_,_,_,rfl,_⟩:=h;rfl
 obtain⟨v,a,b,ws,ns,fr,rfl,wv,g,hA,n0,sr,hlt,hB,f24,pos,k⟩:=h
 refine df.ok (ac (bT 3 em.nd (cF (aa ah (aa ah af aK) aK)))
   (ac (bT 4 em.nd (bP af))
   (ac (cf PassesOwn.never rfl (aX (dr (zi T) hr T.m_Q28 T.F_Q28.kp T.b_Q28 (aa (qv 1) af ad))) (aB (i:=5) em.nd rfl (by first | exact Or.inl rfl | exact Or.inr rfl))
   (ac (bT 6 em.nd (aD (jU rfl) (by rfl) T.z_sum boot_sum (aa (dr (tK T) hr T.m_Q27 T.F_Q27.kp T.b_Q27 (aa (qv 0) (aa (qv 5) (aa (qv 2) af ad) ad) ad)) af aG)))
   (ac (bT 7 em.nd (dr (zm T) hr T.m_Q21 T.F_Q21.kp T.b_Q21 (aa (aU (N':=["_law_j", "_law_works_here"]) (src:=[none,some 0]) rfl (by exact (aX (qv 5))) (fun _ _ _ _ _=>(by exact (by exact aB (i:=0) (by show List.Nodup (["_law_j", "_law_works_here"]:List Str);decide +kernel) (by exact rfl) (by first | exact Or.inl rfl | exact Or.inr rfl)))) (fun _ _ _ _ _=>bJ) (fun _ _ _ _ _=>(by exact (by exact (bu (cm (K:=K) (by exact rfl)) (by exact (bu (cm (K:=K) (by exact rfl)) (by exact (qv 1)) (by exact (qv 0)) (by exact fun _ _=>rfl))) ah (by exact fun _ _=>rfl))))) (by exact⟨rfl,rfl,rfl,rfl,trivial⟩) rfl (by decide +kernel) rfl (by decide +kernel) (by exact aQ rfl ⟨rfl,trivial⟩)) af c8)))
   (ac (iQ (cE (aN gY (aA bF (bW aH (qv 7) ah) (bW aH (qv 3) ah)) (aA bF (aA bF (bW aH (qv 3) ah) (qv 6)) (bW aH (qv 7) ah)) (aV _)) (ac (bT 3 em.nd (dr (zh T) hr T.m_Q30 T.F_Q30.kp T.b_Q30 (aa (qv 7) (aa (cF (aa (qv 6) (aa ah af aK) ad)) af gc) ad)))
   (ak (bT 4 em.nd (bP af)))) bK))
   (ak (cE (aN (y9 hr) (qv 7) (dr (zn T) hr T.m_Q20 T.F_Q20.kp T.b_Q20 (aa (qv 3) (aa (cF (aa (qv 6) (aa ah af aK) ad)) af gc) ad)) (aV _)) (ak (bT 4 em.nd (aA kD (qv 4) (qv 5)))) bK))))))
   (ak (aT (cF (aa (qv 3) (aa (aD (jw (w:=w) rfl rfl) (by rfl) T.z_sorted boot_sorted (aa (cO (nO (w:=w) rfl rfl) (by rfl) T.z_set ql (aa (qv 4) af ad)) af aG)) af aG) ad))))))) ?_
 extract_lets +lift
 try dsimp -zeta -zetaDelta only [Cx.nox,Cx.wish,bO]
 obtain⟨pw,xs,rfl,hS,al⟩:=id wv
 have hlen:=al.len
 have l6:=g.len
 have nd:ns.Nodup:=sr.imp fun h=>Nat.ne_of_lt h
 have n6:ns.length≤ws.length:=eC nd hlt
 refine⟨lu,fun p0 hp0=>?_⟩
 have s1:=ai hp0 (.tup [.int 0,.int 1])
 have r1:RV K (ax H p0 (.tup [.int 0,.int 1])) (.ref p0) (0,1):=RV.of ae
 generalize ax H p0 (.tup [.int 0,.int 1])=H1 at s1 r1 ⊢
 refine⟨(by show 0≤sizeLine;exact Nat.zero_le _),fun l0 hl0=>?_⟩
 have s2:=ai hl0 (.lst [])
 have e2:ax H1 l0 (.lst []) l0=some (.lst (av [])):=ae
 have r2:=r1.mono (be.same s2)
 have s02:=s1.trans s2
 clear s2
 generalize ax H1 l0 (.lst [])=H2 at s02 e2 r2 ⊢
 refine⟨_,rfl,a,ns,rfl,s02.seq hA,by omega,fun lS ys t H3 s3 e3 al3 et qt=>?_⟩
 have sub:∀ L∈t,L.Sublist ns:=fun L hL=>(cI rfl).mp (by rw [et];exact List.mem_cons_of_mem _ hL)
 have stI:∀ M∈t,Al ws fr M:=fun M hM=>by
  have sM:=sub M hM
  refine⟨fun w hw=>?_,qt M hM,by have:=sM.length_le;omega,?_,f24⟩
  ·obtain⟨j,hj,rfl⟩:=List.mem_map.mp hw
   exact g.gd _ (eS (hlt j (sM.subset hj)))
  ·cases M with
   | nil=>exact absurd rfl (qt _ hM)
   | cons i M=>
    have:=kA (S:=fun j=>decide (j∈i :: M)) f24 pos (sM.subset List.mem_cons_self) (decide_eq_true List.mem_cons_self)
    rw [fR nd sM] at this
    exact this
 have tl:t.length≤63:=by
  have:=iO (ns:=ns) rfl
  rw [et,List.length_cons] at this
  have q:=Nat.pow_le_pow_right (n:=2) (by decide) (show ns.length≤6 by omega)
  omega
 have yl:=al3.len
 let Iv1:Nat->L2.St->Hp->Prop:=fun i σ H'=>∃ (vs:V) (lf:Addr) (x5 x6 x7:Option V) (sw:R) (fd:List Nat),σ=[some (.ref pw),some (.ref a),some (.ref b),some vs,some (.ref lf),x5,x6,x7]/\az H3 H'/\RV K H' vs sw/\H' lf=some (.lst (av fd))/\mz ws fr (t.take i) sw fd
 refine⟨lS,rfl,⟨_,aF.of e3⟩,cJ (K:=K) (a:=lS) (xs:=ys) Iv1 ⟨.ref p0,l0,none,none,none,(0,1),[],rfl,az.refl _,r2.mono (be.same s3),s3 _ _ e2,zY⟩ (fun i σ H' _ ⟨_,_,_,_,_,_,_,_,s',_⟩=>aF.of (s' _ _ e3)) ?_ ?_⟩
 ·rintro i x σ H4 hx ⟨vs,lf,x5,x6,x7,sw,fd,rfl,s4,rs,ef,F⟩
  obtain⟨L,hL,pL,rfl,hpL⟩:=al3.at hx
  have mL:=List.mem_of_getElem? hL
  have il:=(List.getElem?_eq_some_iff.mp hL).1
  have sL:=sub L mL
  have S:=stI L mL
  have sl6:=S.len
  have s04:=(s02.trans s3).trans s4
  refine⟨_,rfl,_,rfl,_,rfl,.ref pw,pL,b,ws,L,fr,rfl,wv.mono (be.same s04),aF.of (s4 _ _ hpL),by omega,fun j hj=>hlt j (sL.subset hj),s04.seq hB,f24,fun lb H5 s5 _ e5=>?_⟩
  rw [gx] at e5
  refine⟨lb,_,rfl,aF.of e5,?_⟩
  rw [ka,show (bX (gW ws L) fr).sum=bi (gW ws L) fr from rfl]
  have s05:=s04.trans s5
  have p5:=s5 _ _ (s4 _ _ hpL)
  refine⟨_,rfl,pL,rfl,⟨_,aF.of p5⟩,fun D hD=>dZ (K:=K) (P:=RV K) (ds:=L) (f:=fun j:Nat=>(ws.getD j cC).2.2) (fun _ _ _ _ t p=>p.mono t) hD (aF.of p5) (List.length_map _) (by omega) (fun p y j H' hy hj s' R E kR=>?_) fun H6 zs s6 hD6 al6=>?_⟩
  ·obtain⟨j',hj',rfl⟩:=bZ hy
   rw [hj] at hj'
   cases hj'
   have jl:=hlt j (sL.subset (List.mem_of_getElem? hj))
   obtain⟨xw,hxw⟩:∃ xw,xs[j]?=some xw:=⟨_,List.getElem?_eq_getElem (by omega)⟩
   obtain⟨w,hw,pj,am,rfl,hpj,ram⟩:=al.at hxw
   rw [aq cC hw] at kR
   have t':=be.same (K:=K) (s05.trans s')
   refine⟨dM.set rfl,_,rfl,_,rfl,pw,_,_,_,rfl,rfl,t' _ _ hS,aJ hxw,pj,_,_,_,rfl,rfl,t' _ _ hpj,rfl,?_⟩
   exact kR _ _ (az.refl _) (ram.mono t')
  refine⟨D,zs,_,rfl,aF.of hD6,al6,fun r hr=>?_,by rw [List.length_map];omega,fun v7 H7 s7 rv7=>?_⟩
  ·obtain⟨j,hj,rfl⟩:=List.mem_map.mp hr
   exact (g.gd _ (eS (hlt j (sL.subset hj)))).2.2.1
  rw [show dD (L.map fun j:Nat=>(ws.getD j cC).2.2)=ig ws L by unfold ig gW;rw [List.map_map];rfl] at rv7
  obtain⟨ard,aev,abq⟩:=o6 S
  have aw:Wf 60 (ig ws L):=abq.wf (by decide) (by decide) (by decide)
  have b200:bi (gW ws L) fr≤200:=by
   have:=uB (ws:=gW ws L) f24 (by rw [i8];exact sl6)
   omega
  have b0:=S.bz
  have s47:=(s5.trans s6).trans s7
  have rs7:=rs.mono (be.same s47)
  have ef7:=s47 _ _ ef
  have pL7:=s7 _ _ (s6 _ _ p5)
  have s37:=s4.trans s47
  clear s47 s5 s6 s7 al6 hD6 e5 rs ef p5
  obtain⟨pa,rfl,hpa⟩:=id rv7
  obtain⟨ps,rfl,hps⟩:=id rs7
  have bw:=B5 b200
  refine⟨fun σ H'=>∃ (vs:V) (lf:Addr) (sw':R) (fd':List Nat),σ=[some (.ref pw),some (.ref a),some (.ref b),some vs,some (.ref lf),some (.ref pL),some (.int (bi (gW ws L) fr:Nat)),some (.ref pa)]/\az H7 H'/\RV K H' vs sw'/\H' lf=some (.lst (av fd'))/\(((ig ws L).1 * sw.2 > sw.1 * (bi (gW ws L) fr:Int) * (ig ws L).2/\sw'=bH (gW ws L) fr/\fd'=[])∨(¬ (ig ws L).1 * sw.2 > sw.1 * (bi (gW ws L) fr:Int) * (ig ws L).2/\sw'=sw/\fd'=fd)),?_,?_⟩
  ·refine⟨_,rfl,pa,_,_,_,rfl,rfl,hpa,rfl,_,rfl,ps,_,_,_,rfl,rfl,hps,rfl,_,_,rfl,rfl,⟨aW aw.top (by decide),aW F.wf.bot (by decide)⟩,_,rfl,ps,_,_,_,rfl,rfl,hps,rfl,_,rfl,_,_,rfl,rfl,⟨aW F.wf.top (by decide),aW bw.top (by decide)⟩,_,rfl,pa,_,_,_,rfl,rfl,hpa,rfl,_,_,rfl,rfl,⟨aW (gK F.wf.top bw.top) (by decide),aW aw.bot (by decide)⟩,_,_,rfl,rfl,_,rfl,?_⟩
   by_cases c:(ig ws L).1 * sw.2 > sw.1 * (bi (gW ws L) fr:Int) * (ig ws L).2
   ·refine cq c ?_
    refine⟨_,rfl,_,rfl,lu,fun q hq=>?_⟩
    have s8:=ai hq (.tup [.int (bi (gW ws L) fr:Nat),.int 1])
    have r8:RV K (ax H7 q (.tup [.int (bi (gW ws L) fr:Nat),.int 1])) (.ref q) (((bi (gW ws L) fr:Nat):Int),1):=RV.of ae
    generalize ax H7 q (.tup [.int (bi (gW ws L) fr:Nat),.int 1])=H8 at s8 r8 ⊢
    refine⟨_,_,ig ws L,_,rfl,rv7.mono (be.same s8),r8,aw,by omega,by omega,fun pb hpb=>?_⟩
    have ep:CF (ig ws L) ((bi (gW ws L) fr:Nat):Int)=bH (gW ws L) fr:=wC
    rw [ep]
    have s9:=ai hpb (.tup [.int (bH (gW ws L) fr).1,.int (bH (gW ws L) fr).2])
    have r9:RV K (ax H8 pb (.tup [.int (bH (gW ws L) fr).1,.int (bH (gW ws L) fr).2])) (.ref pb) (bH (gW ws L) fr):=RV.of ae
    have s79:=s8.trans s9
    clear s9
    generalize ax H8 pb (.tup [.int (bH (gW ws L) fr).1,.int (bH (gW ws L) fr).2])=H9 at s79 r9 ⊢
    refine⟨(by show 0≤sizeLine;exact Nat.zero_le _),fun ln hln=>?_⟩
    have s10:=ai hln (.lst [])
    exact⟨_,ln,_,[],rfl,s79.trans s10,r9.mono (be.same s10),ae,.inl ⟨c,rfl,rfl⟩⟩
   ·exact ca c ⟨_,lf,sw,fd,rfl,az.refl _,rs7,ef7,.inr ⟨c,rfl,rfl⟩⟩
  rintro σ H8 ⟨vs,lf8,sw',fd',rfl,s8,r8,e8,cs⟩
  have wsw:Wf 60 sw'/\eQ sw':=by
   rcases cs with ⟨c,e,_⟩ | ⟨_,e,_⟩
   ·obtain⟨q1,q2,_⟩:=F.rise S (fun M hM=>(stI M (List.mem_of_mem_take hM)).bz) c
    rw [e];exact⟨q2,q1⟩
   ·rw [e];exact⟨F.wf,F.rd⟩
  refine⟨_,rfl,_,rfl,_,rfl,lu,fun q hq=>?_⟩
  have s9:=ai hq (.tup [.int (bi (gW ws L) fr:Nat),.int 1])
  have r9:RV K (ax H8 q (.tup [.int (bi (gW ws L) fr:Nat),.int 1])) (.ref q) (((bi (gW ws L) fr:Nat):Int),1):=RV.of ae
  generalize ax H8 q (.tup [.int (bi (gW ws L) fr:Nat),.int 1])=H9 at s9 r9 ⊢
  refine⟨_,_,sw',_,60,8,rfl,r8.mono (be.same s9),r9,wsw.1,bw,by decide,fun pt hpt=>?_⟩
  have s10:=ai hpt (.tup [.int (bA sw' (((bi (gW ws L) fr:Nat):Int),1)).1,.int (bA sw' (((bi (gW ws L) fr:Nat):Int),1)).2])
  have r10:RV K (ax H9 pt (.tup [.int (bA sw' (((bi (gW ws L) fr:Nat):Int),1)).1,.int (bA sw' (((bi (gW ws L) fr:Nat):Int),1)).2])) (.ref pt) (bA sw' (((bi (gW ws L) fr:Nat):Int),1)):=RV.of ae
  have s810:=s9.trans s10
  clear s10
  generalize ax H9 pt (.tup [.int (bA sw' (((bi (gW ws L) fr:Nat):Int),1)).1,.int (bA sw' (((bi (gW ws L) fr:Nat):Int),1)).2])=H10 at s810 r10 ⊢
  have s710:=s8.trans s810
  have e10:=s810 _ _ e8
  refine⟨dR (ig ws L),dR (bA sw' (((bi (gW ws L) fr:Nat):Int),1)),(rv7.mono (be.same s710)).deep,r10.deep,rfl,rfl,(by show 1≤32;decide),_,rfl,?_⟩
  rw [wt]
  have ht:=pD S wsw.2
  have tk:t.take (i+1)=t.take i++[L]:=by rw [List.take_add_one,hL];rfl
  have bzs:∀ M∈t.take i,0 < bi (gW ws M) fr:=fun M hM=>(stI M (List.mem_of_mem_take hM)).bz
  by_cases c:ig ws L=bA sw' (((bi (gW ws L) fr:Nat):Int),1)
  ·rw [decide_eq_true c]
   refine jt ?_
   have F':mz ws fr (t.take (i+1)) sw' (fd'++L):=by
    rw [tk]
    rcases cs with ⟨h,rfl,rfl⟩ | ⟨h,rfl,rfl⟩
    ·exact F.up S bzs h
    ·exact F.on S h (ht.mp c)
   have fl:=F'.len
   rw [List.length_append,List.length_take] at fl
   refine⟨_,rfl,_,rfl,lf8,pL,_,_,rfl,rfl,e10,s710 _ _ pL7,(by unfold av;rw [List.length_map,List.length_map,sizeLine_eq];omega),fun l11 hl11=>?_⟩
   have s11:=ai hl11 (.lst (av fd'++av L))
   refine⟨vs,l11,_,_,_,sw',fd'++L,rfl,(s37.trans s710).trans s11,(r8.mono (be.same s810)).mono (be.same s11),?_,F'⟩
   rw [ae]
   unfold av
   rw [List.map_append]
  ·rw [decide_eq_false c]
   refine ib ?_
   have F':mz ws fr (t.take (i+1)) sw' fd':=by
    rw [tk]
    rcases cs with ⟨h,rfl,rfl⟩ | ⟨h,rfl,rfl⟩
    ·obtain⟨_,_,_,q,_⟩:=F.rise S bzs h
     exact absurd (ht.mpr q.symm) c
    ·exact F.off S h fun z=>c (ht.mpr z)
   exact⟨vs,lf8,_,_,_,sw',fd',rfl,s37.trans s710,r8.mono (be.same s810),e10,F'⟩
 ·rintro σ H4 ⟨vs,lf,x5,x6,x7,sw,fd,rfl,s4,rs,ef,F⟩
  rw [yl,List.take_length] at F
  have fdn:∀ j∈fd,j∈ns:=fun j hj=>by
   obtain⟨L,hL,hj',_⟩:=(F.mem j).mp hj
   exact (sub L hL).subset hj'
  have fl:=F.len
  have ol:=tG nd fdn
  rw [gx] at ef
  refine⟨_,rfl,_,rfl,lf,_,rfl,.inl (aF.of ef),by rw [List.length_map];omega,fun ls hls=>?_⟩
  refine⟨ls,_,rfl,ae,by omega,fun l2 ms pm st hl2=>?_⟩
  have s5:=ai hls (setO w ls (bG (fd.map fun n:Nat=>(n:Int))))
  have s6:=ai hl2 (.lst (ms.map V.int))
  have e6:ax (ax H4 ls (setO w ls (bG (fd.map fun n:Nat=>(n:Int))))) l2 (.lst (ms.map V.int)) l2=some (.lst (av (ns.filter fun j=>decide (j∈fd)))):=by rw [ae,uW sr fdn pm st]
  have s46:=s5.trans s6
  generalize ax (ax H4 ls (setO w ls (bG (fd.map fun n:Nat=>(n:Int))))) l2 (.lst (ms.map V.int))=H6 at s46 e6 ⊢
  refine⟨lu,fun q hq=>?_⟩
  have s7:=ai hq (.tup [vs,.ref l2])
  exact k q l2 vs sw _ _ ((((s02.trans s3).trans s4).trans s46).trans s7) (bS.of ae) ((rs.mono (be.same s46)).mono (be.same s7)) (s7 _ _ e6) (F.fst nd f24 pos n0 et qt) F.wf
theorem zq (T:eK K mg t):bh P w K mg base dC 5 t.a_Q17 t.d_Q17 ["_law_works_here", "_law_hands"] (jp K):=by
 refine T.F_Q17.ok dE (fun vs H Q E h=>?_) (fun cdv A outer s H vs Q E hr h=>?_)
 ·obtain⟨_,_,_,rfl,_⟩:=h;rfl
 obtain⟨v,h₀,ws,rfl,wv,g,h1,h20,k⟩:=h
 refine df.ok (ac (bT 2 dE.nd (aA kB (bP (aa (qv 1) af ad)) ah))
   (ac (bT 3 dE.nd (cO (jd rfl) (by rfl) T.z_list boot_list (aa (oF rfl T.z_range (aa (aD aC (by rfl) T.z_len boot_len (aa (qv 0) af ad)) af aG)) af aG)))
   (ac (bT 4 dE.nd gt)
   (ac (cV PassesOwn.never (aN (nB hr) (qv 3) (bP af) (aV _))
   (ac (nh (dr (zr T) hr T.m_Q15 T.F_Q15.kp T.b_Q15 (aa (qv 0) (aa (qv 3) (aa (qv 2) af ad) ad) ad)) (nj rfl (b8 (aB (i:=5) dE.nd rfl (by first | exact Or.inl rfl | exact Or.inr rfl)) (b8 (aB (i:=6) dE.nd rfl (by first | exact Or.inl rfl | exact Or.inr rfl)) fm))))
   (ac (bT 7 dE.nd (dr (tK T) hr T.m_Q27 T.F_Q27.kp T.b_Q27 (aa (qv 0) (aa (qv 6) (aa (qv 2) af ad) ad) ad)))
   (ac (cf PassesOwn.never rfl (aX (qv 6)) (aB (i:=8) dE.nd rfl (by first | exact Or.inl rfl | exact Or.inr rfl))
   (ak (gk (dY hr) (qv 4) (qv 8) (qv 5) rfl)))
   (ac (bT 2 dE.nd (aU (N':=["_law_turn", "_law_rooms", "_law_busy_here"]) (src:=[none,some 2,some 7]) rfl (by exact (bx rfl T.z_range (aa (aD aC (by rfl) T.z_len boot_len (aa (qv 2) af ad)) af aG))) (fun _ _ _ _ _=>(by exact (by exact aB (i:=0) (by show List.Nodup (["_law_turn", "_law_rooms", "_law_busy_here"]:List Str);decide +kernel) (by exact rfl) (by first | exact Or.inl rfl | exact Or.inr rfl)))) (fun _ _ _ _ _=>bJ) (fun _ _ _ _ _=>(by exact (by exact (aA cG (by exact (bu (bV (K:=K) (by exact rfl)) (by exact (qv 1)) (by exact (qv 0)) (by exact fun _ _=>rfl))) (by exact (bu (bV (K:=K) (by exact rfl)) (by exact (qv 2)) (by exact (qv 0)) (by exact fun _ _=>rfl))))))) (by exact⟨rfl,rfl,rfl,rfl,⟨rfl,rfl,rfl,rfl,trivial⟩⟩) rfl (by decide +kernel) rfl (by decide +kernel) (by exact aQ rfl ⟨rfl,⟨rfl,trivial⟩⟩)))
   (ak (gj (i:=3) (N':=["_law_j", "_law_some"]) (src:=[none,some 6]) dE.nd rfl (by first | exact Or.inl rfl | exact Or.inr rfl) rfl (by exact (aX (qv 3))) (fun _ _ _ _ _=>(by exact (by exact aB (i:=0) (by show List.Nodup (["_law_j", "_law_some"]:List Str);decide +kernel) (by exact rfl) (by first | exact Or.inl rfl | exact Or.inr rfl)))) (fun _ _ _ _ _=>(cD (aN (js (K:=K) (by exact rfl)) (by exact (qv 0)) (by exact (qv 1)) (by with_unfolding_all rfl)))) (fun _ _ _ _ _=>(by exact (by exact (qv 0)))) (by exact⟨rfl,rfl,rfl,rfl,trivial⟩) rfl (by decide +kernel) rfl (by decide +kernel) (by exact aQ rfl ⟨rfl,trivial⟩))))))))
   (ak (aT (cO dI (by rfl) T.z_tuple boot_tuple (aa (aU (N':=["_law_j", "_law_speeds_here"]) (src:=[none,some 4]) rfl (by exact (bx rfl T.z_range (aa (aD aC (by rfl) T.z_len boot_len (aa (qv 0) af ad)) af aG))) (fun _ _ _ _ _=>(by exact (by exact aB (i:=0) (by show List.Nodup (["_law_j", "_law_speeds_here"]:List Str);decide +kernel) (by exact rfl) (by first | exact Or.inl rfl | exact Or.inr rfl)))) (fun _ _ _ _ _=>bJ) (fun _ _ _ _ _=>(by exact (by exact (gu (by exact dY hr) (by exact (qv 1)) (by exact (qv 0)) (by exact fun _ _=>rfl))))) (by exact⟨rfl,rfl,rfl,rfl,trivial⟩) rfl (by decide +kernel) rfl (by decide +kernel) (by exact aQ rfl ⟨rfl,trivial⟩)) af c8)))))))) ?_
 extract_lets +lift
 try dsimp -zeta -zetaDelta only [Cx.nox,Cx.wish,bO]
 obtain⟨pw,xs,rfl,hS,al⟩:=id wv
 have hlen:=al.len
 have l6:=g.len
 refine⟨_,rfl,wN,fun l4 hl4=>?_⟩
 have s4:=ai hl4 (.lst [.int (h₀:Nat)])
 refine⟨l4,_,24,rfl,rfl,ae,by decide,fun lf hlf=>?_⟩
 have s5:=ai hlf (.lst (List.replicate 24 (V.int (h₀:Nat))))
 have f5:ax (ax H l4 (.lst [.int (h₀:Nat)])) lf (.lst (List.replicate 24 (V.int (h₀:Nat)))) lf=some (.lst (av (List.replicate 24 h₀))):=by rw [ae];unfold av;rw [List.map_replicate]
 have s05:=s4.trans s5
 generalize ax (ax H l4 (.lst [.int (h₀:Nat)])) lf (.lst (List.replicate 24 (V.int (h₀:Nat))))=H1 at f5 s05 ⊢
 refine⟨_,rfl,pw,_,rfl,.inr (be.same (K:=K) s05 _ _ hS),_,rfl,fun pr hpr=>?_⟩
 rw [hlen]
 have s2:=ai hpr (.rng 0 ws.length)
 refine⟨pr,ws.length,rfl,ae,by omega,fun ln hln=>?_⟩
 have s3:=ai hln (.lst ((B.upTo ws.length).map V.int))
 have n3:ax (ax H1 pr (.rng 0 ws.length)) ln (.lst ((B.upTo ws.length).map V.int)) ln=some (.lst (av (List.range ws.length))):=by rw [ae,lC]
 have s13:=s2.trans s3
 generalize ax (ax H1 pr (.rng 0 ws.length)) ln (.lst ((B.upTo ws.length).map V.int))=H3 at n3 s13 ⊢
 refine fun d hd=>?_
 have s6:=ai hd (.dK [])
 have e6:ax H3 d (.dK []) d=some (.dK (cL [])):=ae
 have s36:=s13.trans s6
 have n6:=s6 _ _ n3
 have s06:=s05.trans s36
 have hd0:H d=none:=jL (s05.trans s13) hd
 clear s6
 generalize ax H3 d (.dK [])=H6 at s36 e6 n6 s06 ⊢
 have T0:TI K H6 (RV K) ws h₀ [] (fun _=>(0,1)) (List.range ws.length) (List.replicate 24 h₀):=TI.first h1 h20 g.gd
 let Iv1:Nat->L2.St->Hp->Prop:=fun m σ H'=>∃ (ns fr:List Nat) (ln lf:Addr) (tl:Tl) (f:Nat->R) (x5 x6 x7 x8:Option V),σ=[some (.ref pw),some (.int (h₀:Nat)),some (.ref lf),some (.ref ln),some (.ref d),x5,x6,x7,x8]/\az H H'/\H' ln=some (.lst (av ns))/\H' lf=some (.lst (av fr))/\H' d=some (.dK (cL tl))/\TI K H' (RV K) ws h₀ tl f ns fr/\m=ns.length
 refine⟨Iv1,⟨_,_,_,ln,lf,[],_,none,none,none,none,rfl,s06,n6,s36 _ _ f5,e6,T0,rfl⟩,?_⟩
 clear T0 f5 s36 n6 e6 s06 s13 n3 s2 s3 s4 s5 s05 hlf hl4 hln hpr hd
 rintro m σ H1 ⟨ns,fr,ln,lf,tl,f,x5,x6,x7,x8,rfl,s1,hn1,hf1,hd1,T1,rfl⟩
 have nln:(av ns).length=ns.length:=List.length_map _
 have nd:=T1.nodup
 have nl6:ns.length≤ws.length:=eC nd fun j hj=>(T1.lt hj).1
 refine⟨_,rfl,(by show 0≤sizeLine;exact Nat.zero_le _),fun pe hpe=>?_⟩
 have s2:=ai hpe (.lst [])
 have e2:ax H1 pe (.lst []) pe=some (.lst []):=ae
 generalize ax H1 pe (.lst [])=H2 at s2 e2 ⊢
 have s02:=s1.trans s2
 refine⟨.list (ns.map fun n:Nat=>PyData.int (n:Int)),.list [],.lst (aF.of (s2 _ _ hn1)) (me ns),.lst (aF.of e2) .nil,v2 ns,rfl,wx ns,_,rfl,?_⟩
 have ev:PyData.eqv (.list (ns.map fun n:Nat=>PyData.int (n:Int))) (.list [])=ns.isEmpty:=by cases ns <;> rfl
 rw [ev]
 have hn2:=s2 _ _ hn1
 have hf2:=s2 _ _ hf1
 have hd2:=s2 _ _ hd1
 by_cases c0:ns=[]
 ·subst c0
  refine t6 (b:=!List.isEmpty []) rfl ?_
  refine⟨_,rfl,pw,_,rfl,.inr (be.same (K:=K) s02 _ _ hS),ws.length,(by rw [hlen]),by omega,by omega,fun D hD=>bn (d9 (lo:=0) (n:=((ws.length:Nat):Int).toNat)) (fun _=>true) (fun i=>(cY (cL tl) (Sum.inl (i:Int))).getD V.non) hD (by omega) (fun i x H' hi' s' hx' R E kR kE=>?_) fun H3 s3 h3=>?_⟩
  ·subst hx'
   rw [Int.zero_add]
   obtain⟨vj,mj,_,_⟩:=T1.none i (by omega)
   have ev:=f8 T1.nd mj
   rw [ev] at kR
   refine⟨dM.set rfl,_,rfl,_,rfl,d,vj,rfl,.inl ⟨cL tl,Sum.inl (i:Int),.inl (s' _ _ hd2),rfl,ev.symm⟩,?_⟩
   exact kR rfl _ (az.refl _)
  ·rw [Int.toNat_natCast,iy] at h3
   refine⟨D,_,rfl,.inl ⟨aF.of h3,fun lt hlt=>?_⟩⟩
   have s4:=ai hlt (.tup ((List.range ws.length).map fun i:Nat=>(cY (cL tl) (Sum.inl (i:Int))).getD V.non))
   refine k _ _ _ ((s02.trans s3).trans s4) ⟨lt,_,rfl,bS.of ae,kY fun i hi=>?_⟩ T1.ok
   obtain⟨vj,mj,pj,_⟩:=T1.none i (List.mem_range.mp hi)
   rw [f8 T1.nd mj]
   exact pj.mono (be.same ((s2.trans s3).trans s4))
 have n0:0 < ns.length:=List.length_pos_iff.mpr c0
 refine t4 (b:=!ns.isEmpty) (by rw [Bool.not_eq_true',List.isEmpty_eq_false_iff];exact c0) ?_
 refine⟨_,fun _ _ z=>z,?_⟩
 refine⟨_,rfl,_,rfl,_,rfl,.ref pw,ln,lf,ws,ns,fr,rfl,wv.mono (be.same s02),g,aF.of hn2,c0,T1.sorted,fun j hj=>(T1.lt hj).1,aF.of hf2,T1.f24,T1.pos,fun q lo vr r U H3 s3 hq rv ho F wf=>?_⟩
 refine⟨q,_,rfl,hq,rfl,_,_,rfl,_,_,rfl,rfl,?_⟩
 have s03:=s02.trans s3
 have f24:=T1.f24
 have ofl:(ns.filter U).length≤ns.length:=List.length_filter_le _ _
 have ofm:∀ j∈ns.filter U,j∈ns:=fun j hj=>(List.mem_filter.mp hj).1
 refine⟨_,rfl,_,rfl,_,rfl,.ref pw,lo,lf,ws,ns.filter U,fr,rfl,wv.mono (be.same s03),aF.of ho,by omega,fun j hj=>(T1.lt (ofm j hj)).1,aF.of (s3 _ _ hf2),f24,fun lb H4 s4 _ b4=>?_⟩
 have s24:=s3.trans s4
 have hd4:=s24 _ _ hd2
 have hn4:=s24 _ _ hn2
 have hf4:=s24 _ _ hf2
 have ho4:=s4 _ _ ho
 have rv4:=rv.mono (be.same s4)
 have ndo:lo≠d:=fun z=>by rw [z,hd4] at ho4;cases ho4
 have ool:(av (ns.filter U)).length=(ns.filter U).length:=List.length_map _
 have tll:tl.length≤ws.length:=by
  have:=eC (n:=ws.length) T1.nd fun j hj=>by
   obtain⟨x,hx,rfl⟩:=List.mem_map.mp hj
   exact (T1.vl x hx).2.2
  rw [List.length_map] at this
  exact this
 let Iv2:Nat->L2.St->Hp->Prop:=fun i σ H'=>∃ (tl':Tl) (y8:Option V),σ=[some (.ref pw),some (.int (h₀:Nat)),some (.ref lf),some (.ref ln),some (.ref d),some vr,some (.ref lo),some (.ref lb),y8]/\(∀ b o,b≠d->H4 b=some o->H' b=some o)/\H' d=some (.dK (cL (tl++tl')))/\tl'.map (·.1)=(ns.filter U).take i/\∀ x∈tl',RV K H' x.2 r
 refine⟨_,rfl,lo,rfl,⟨_,aF.of ho4⟩,cJ (K:=K) (a:=lo) (xs:=av (ns.filter U)) Iv2 ⟨[],x8,rfl,fun _ _ _ e=>e,(by rw [List.append_nil];exact hd4),rfl,(fun x hx=>by cases hx)⟩ (fun i σ H' _ ⟨_,_,_,k',_⟩=>aF.of (k' _ _ ndo ho4)) ?_ ?_⟩
 ·rintro i x σ H5 hx ⟨tl',y8,rfl,k5,e5,m5,v5⟩
  obtain⟨j,hj,rfl⟩:=bZ hx
  have z5:=mw.ex hd4 k5
  have jm:=List.mem_of_getElem? hj
  have ml:=congrArg List.length m5
  rw [List.length_map,List.length_take] at ml
  have il:=(List.getElem?_eq_some_iff.mp hj).1
  have nm:j∉(tl++tl').map (·.1):=fun m=>by
   rw [List.map_append,m5] at m
   rcases List.mem_append.mp m with z | z
   ·exact (T1.lt (ofm j jm)).2 z
   ·obtain⟨i',hi',ei'⟩:=List.mem_iff_getElem.mp z
    rw [List.length_take] at hi'
    rw [List.getElem_take] at ei'
    have:=(List.getElem_inj (nd.filter U)).mp (ei'.trans (List.getElem?_eq_some_iff.mp hj).2.symm)
    omega
  refine⟨_,rfl,_,rfl,_,rfl,d,_,rfl,jk.k (k:=Sum.inl (j:Int)) (v:=vr) e5 (by unfold cL;rw [List.length_map,List.length_append,sizeLine_eq];omega),?_⟩
  rw [Bn nm]
  have z8:=mw.up e5 (cL (tl++tl'++[(j,vr)]))
  refine⟨tl'++[(j,vr)],_,rfl,fun b o nb e=>by rw [aj nb];exact k5 b o nb e,by rw [ae,List.append_assoc],?_,fun x hx=>?_⟩
  ·rw [List.map_append,m5,List.take_add_one,hj]
   rfl
  ·rcases List.mem_append.mp hx with z | z
   ·exact (v5 x z).mono z8.tst
   ·rw [List.mem_singleton.mp z]
    exact (rv4.mono z5.tst).mono z8.tst
 rintro σ H5 ⟨tl',y8,rfl,k5,e5,m5,v5⟩
 rw [ool,List.take_length] at m5
 have z5:=mw.ex hd4 k5
 have n5:=z5.lst hn4
 have f5:=z5.lst hf4
 have b5:=z5.lst b4
 have o5:=z5.lst ho4
 have S05:az H H5:=fun b o e=>k5 b o (ay e hd0) (s4 _ _ (s03 _ _ e))
 have fl:(av fr).length=24:=by unfold av;rw [List.length_map,f24]
 have bl:(bX (gW ws (ns.filter U)) fr).length=24:=by unfold bX;rw [List.length_map,List.length_range,f24]
 refine⟨_,rfl,lf,_,rfl,.inl (aF.of f5),24,(by rw [fl];rfl),by decide,by decide,fun lh hlh=>bn (d9 (lo:=0) (n:=24)) (fun _=>true) (fun i=>V.int (((ld fr (gW ws (ns.filter U))).getD i 0:Nat):Int)) hlh (by decide) (fun i x H' hi' s' hx' R E kR kE=>?_) fun H8 s8 h8=>?_⟩
 ·subst hx'
  rw [Int.zero_add]
  have at':∀ (l:List Nat),i < l.length->(av l)[i]?=some (.int ((l.getD i 0:Nat):Int)):=fun l hl=>by
   unfold av
   rw [List.getElem?_map,List.getElem?_eq_getElem hl,aq 0 (List.getElem?_eq_getElem hl)]
   rfl
  rw [← uk f24 (show i < 24 from hi')] at kR
  refine⟨dM.set rfl,_,rfl,_,rfl,lf,_,_,_,rfl,rfl,aF.of (s' _ _ f5),aJ (at' _ (by omega)),_,rfl,_,rfl,lb,_,_,_,rfl,rfl,aF.of (s' _ _ b5),aJ (at' _ (by omega)),_,_,rfl,rfl,?_⟩
  exact kR rfl _ (az.refl _)
 have e8:((List.range 24).filter fun _=>true).map (fun i=>V.int (((ld fr (gW ws (ns.filter U))).getD i 0:Nat):Int))=av (ld fr (gW ws (ns.filter U))):=by
  have e:=bg 0 (fun n:Nat=>V.int (n:Int)) (ld fr (gW ws (ns.filter U)))
  rw [kP] at e
  exact e
 have h8:H8 lh=some (.lst (av (ld fr (gW ws (ns.filter U))))):=by rw [← e8];exact h8
 have n8:=s8 _ _ n5
 have o8:=s8 _ _ o5
 refine⟨_,rfl,ln,rfl,⟨_,aF.of n8⟩,fun lz hlz=>bn (c7 (aF.of n8)) (fun i=>!U (ns.getD i 0)) (fun i=>V.int ((ns.getD i 0:Nat):Int)) hlz (by omega) (fun i y H' hi' s' hy R E kR kE=>?_) fun H9 s9 h9=>?_⟩
 ·obtain⟨j,hj,rfl⟩:=bZ hy
  have jm:=List.mem_of_getElem? hj
  rw [aq 0 hj] at kR kE
  refine⟨dM.set rfl,_,rfl,_,rfl,lo,_,rfl,.inl (aF.of (s' _ _ o8)),rfl,uo _,_,rfl,?_⟩
  have ein:BP (.int (j:Nat)) (av (ns.filter U))=U j:=by
   unfold av
   rw [v9,Bool.eq_iff_iff,List.contains_iff_mem,List.mem_filter]
   exact⟨fun z=>z.2,fun z=>⟨jm,z⟩⟩
  rw [ein]
  cases u:U j with
  | true=>rw [u] at kE;exact ib (kE rfl _ (az.refl _))
  | false=>rw [u] at kR;exact jt ⟨_,rfl,kR rfl _ (az.refl _)⟩
 rw [nln,d6 0 (fun j=>!U j) (fun j:Nat=>V.int (j:Int)) ns] at h9
 have s59:=s8.trans s9
 have T5:=T1.mono (H':=H5) fun v r z=>(z.mono (be.same (s2.trans s24))).mono z5.tst
 have T9:=(T5.next F wf m5 v5 g.gd).mono (H':=H9) fun v r z=>z.mono (be.same s59)
 obtain⟨j,hj,hu⟩:=F.some f24
 refine⟨_,?_,_,_,lz,lh,_,_,_,_,_,_,rfl,S05.trans s59,h9,s9 _ _ h8,s59 _ _ e5,T9,rfl⟩
 exact List.length_filter_lt_length_iff_exists.mpr ⟨j,hj,by rw [hu];decide⟩
theorem BD (T:eK K mg t):bh P w K mg base dC 3 t.a_Q9 t.d_Q9 ["self", "works", "free", "speed"] (hZ K t.c_Pouring):=by
 refine T.F_Q9.ok wZ (fun vs H Q E h=>?_) (fun cdv A outer s H vs Q E hr h=>?_)
 ·obtain⟨_,_,_,_,_,_,_,_,_,_,rfl,_⟩:=h;rfl
 obtain⟨x,dx,a,b,v,xs,ws,fr,r,D₀,rfl,hx,hA,al,g,nbx,hF,f24,f40,rv,r2,r1,r60,d0,d60,d84,rd,k⟩:=h
 refine df.ok (ac (bT 4 wZ.nd (dr (zw T) hr T.m_Q12 T.F_Q12.kp T.b_Q12 (aa (aA kD (bP (aa (qv 3) af ad)) (aU (N':=["work"]) (src:=[none]) rfl (by exact (aX (qv 1))) (fun _ _ _ _ _=>(by exact (by exact aB (i:=0) (by show List.Nodup (["work"]:List Str);decide +kernel) (by exact rfl) (by first | exact Or.inl rfl | exact Or.inr rfl)))) (fun _ _ _ _ _=>bJ) (fun _ _ _ _ _=>(by exact (by exact (bu (cm (K:=K) (by exact rfl)) (by exact (qv 0)) ah (by exact fun _ _=>rfl))))) (by exact trivial) rfl (by decide +kernel) rfl (by decide +kernel) (by exact aQ rfl trivial))) af aP)))
   (ac (gH (qv 0) (qv 1) rfl)
   (ac (gH (qv 0) (bW aL (qv 4) ah) rfl)
   (ac (gH (qv 0) (eW kl (qv 4) (gm ah) gs) rfl)
   (ac (gH (qv 0) (eW kl (qv 4) (gm ah) gs) rfl)
   (ac (gH (qv 0) (aU (N':=["hands", "parts"]) (src:=[none,some 4]) rfl (by exact (aX (qv 2))) (fun _ _ _ _ _=>(by exact (by exact aB (i:=0) (by show List.Nodup (["hands", "parts"]:List Str);decide +kernel) (by exact rfl) (by first | exact Or.inl rfl | exact Or.inr rfl)))) (fun _ _ _ _ _=>bJ) (fun _ _ _ _ _=>(by exact (by exact (aA bF (by exact (bu (bV (K:=K) (by exact rfl)) (by exact (qv 1)) ah (by exact fun _ _=>rfl))) (by exact (qv 0)))))) (by exact⟨rfl,rfl,rfl,rfl,trivial⟩) rfl (by decide +kernel) rfl (by decide +kernel) (by exact aQ rfl ⟨rfl,trivial⟩)) rfl)
   (ak (gH (qv 0) (aU (N':=["work"]) (src:=[none]) rfl (by exact (aX (qv 1))) (fun _ _ _ _ _=>(by exact (by exact aB (i:=0) (by show List.Nodup (["work"]:List Str);decide +kernel) (by exact rfl) (by first | exact Or.inl rfl | exact Or.inr rfl)))) (fun _ _ _ _ _=>bJ) (fun _ _ _ _ _=>(by exact (by exact (aA kB (by exact (bP (aa ah af aK))) (by exact (ir (v:=.int (24)) (by exact rfl) T.m_TURNS ⟨_,rfl⟩)))))) (by exact trivial) rfl (by decide +kernel) rfl (by decide +kernel) (by exact aQ rfl trivial)) rfl)))))))) ?_
 extract_lets +lift
 try dsimp -zeta -zetaDelta only [Cx.nox,Cx.wish,bO]
 have hlen:=al.len
 have l6:=g.len
 have hS:aF K H a xs:=aF.of hA
 have nax:a≠x:=fun z=>by rw [z,hx] at hA;cases hA
 refine⟨_,rfl,wN,fun l1 hl1=>?_⟩
 have s1:=ai hl1 (.lst [v])
 have e1:ax H l1 (.lst [v]) l1=some (.lst [v]):=ae
 generalize ax H l1 (.lst [v])=H1 at s1 e1 ⊢
 have t1:=be.same (K:=K) s1
 refine⟨_,rfl,a,rfl,⟨_,s1.seq hS⟩,fun l2 hl2=>dZ (K:=K) (P:=RV K) (ds:=ws) (f:=fun w:Wk=>w.2.2) (fun _ _ _ _ t p=>p.mono t) hl2 (s1.seq hS) hlen (by omega) (fun i y w H' hy hw s' R E kR=>?_) fun H2 ys s2 e2 al2=>?_⟩
 ·obtain⟨w',hw',pw,am,rfl,hpw,ram⟩:=al.at hy
  rw [hw] at hw'
  cases hw'
  have t':=be.same (K:=K) (s1.trans s')
  refine⟨dM.set rfl,_,rfl,pw,_,_,_,rfl,rfl,t' _ _ hpw,rfl,?_⟩
  exact kR _ _ (az.refl _) (ram.mono t')
 have ly:=al2.len
 rw [List.length_map] at ly
 refine⟨l1,l2,_,_,rfl,rfl,s2 _ _ e1,e2,(by rw [sizeLine_eq];show 1+ys.length≤_;omega),fun l3 hl3=>?_⟩
 have s3:=ai hl3 (.lst ([v]++ys))
 have e3:ax H2 l3 (.lst ([v]++ys)) l3=some (.lst ([v]++ys)):=ae
 generalize ax H2 l3 (.lst ([v]++ys))=H3 at s3 e3 ⊢
 have s03:=(s1.trans s2).trans s3
 have gr:∀ q∈(r :: ws.map fun w=>w.2.2),0 < q.2/\q.2∣(D₀:Int)/\q.1.natAbs < 2 ^ 4000:=fun q hq=>by
  rcases List.mem_cons.mp hq with z | z
  ·subst z
   exact⟨r2,rd,Nat.lt_of_lt_of_le r60 (Nat.pow_le_pow_right (by decide) (by decide))⟩
  ·obtain⟨w,hw,rfl⟩:=List.mem_map.mp z
   have gg:=(g.gd w hw).2.2.1
   have d1:=gg.dvd
   exact⟨gg.pos,Int.dvd_trans d1 (Int.natCast_dvd_natCast.mpr d84),aW (gg.wf (n:=20) (by decide) (by decide) (by decide)).top (by decide)⟩
 refine⟨l3,_,r :: ws.map fun w=>w.2.2,D₀,rfl,aF.of e3,.cons (rv.mono (be.same s03)) (al2.mono fun _ _ z=>z.mono (be.same s3)),(by rw [List.length_cons,List.length_map];omega),d0,Nat.lt_of_lt_of_le d60 (Nat.pow_le_pow_right (by decide) (by decide)),gr,fun lq B H4 s4 hlq b0 bd all e4=>?_⟩
 have s04:=s03.trans s4
 have rB:=all r List.mem_cons_self
 have wB:∀ w∈ws,w.2.2.2∣B:=fun w hw=>all _ (List.mem_cons_of_mem _ (List.mem_map.mpr ⟨w,hw,rfl⟩))
 have e4:H4 lq=some (.lst (V.int (cZ B r) :: (ws.map fun w=>cZ B w.2.2).map V.int)):=by
  rw [e4]
  unfold xF cZ
  rw [List.map_cons,List.map_cons,List.map_map,List.map_map,List.map_map]
  rfl
 have hx4:=s04 _ _ hx
 have nq:lq≠x:=fun z=>by rw [z] at hlq;rw [s03 _ _ hx] at hlq;cases hlq
 have f4:H lq=none:=by
  cases q:H lq with
  | none=>rfl
  | some o=>rw [s03 _ _ q] at hlq;cases hlq
 have k4:∀ b o,b≠x->H b=some o->H4 b=some o:=fun b o _ e=>s04 b o e
 clear e1 e2 e3 hl1 hl2 hl3 s1 s2 s3 s03 s4 al2 hlq gr s04
 refine⟨_,rfl,_,rfl,x,_,_,_,rfl,hx4,T.cl_Pouring,T.n_Pouring_inside,(by show 0 < 1000;decide),?_⟩
 generalize hh5:ax H4 x (.ins t.c_Pouring dx (dt "inside" (.ref a) []))=H5
 have x5:H5 x=some (.ins t.c_Pouring dx [("inside", .ref a)]):=by rw [← hh5];exact ae
 have e5lq:H5 lq=some (.lst (V.int (cZ B r) :: (ws.map fun w=>cZ B w.2.2).map V.int)):=by rw [← hh5,aj nq];exact e4
 have k5:∀ b o,b≠x->H b=some o->H5 b=some o:=fun b o nb e=>by rw [← hh5,aj nb];exact k4 b o nb e
 clear hh5
 refine⟨_,rfl,lq,_,_,_,rfl,rfl,aF.of e5lq,aJ (j:=0) rfl,_,rfl,x,_,_,_,rfl,x5,T.cl_Pouring,T.n_Pouring_most,(by show 1 < 1000;decide),?_⟩
 generalize hh6:ax H5 x (.ins t.c_Pouring dx (dt "most" (.int (cZ B r)) [("inside", .ref a)]))=H6
 have x6:H6 x=some (.ins t.c_Pouring dx [("inside", .ref a),("most", .int (cZ B r))]):=by rw [← hh6];exact ae
 have e6lq:H6 lq=some (.lst (V.int (cZ B r) :: (ws.map fun w=>cZ B w.2.2).map V.int)):=by rw [← hh6,aj nq];exact e5lq
 have k6:∀ b o,b≠x->H b=some o->H6 b=some o:=fun b o nb e=>by rw [← hh6,aj nb];exact k5 b o nb e
 clear hh6
 have ct:eP (V.int (cZ B r) :: (ws.map fun w=>cZ B w.2.2).map V.int) (some 1) none=((ws.map fun w=>cZ B w.2.2).map V.int):=mf (by show 1≤_+1;omega)
 refine⟨_,rfl,_,rfl,lq,_,rfl,aF.of e6lq,fun lw hlw=>?_⟩
 rw [ct]
 have w6:=ai hlw (.lst ((ws.map fun w=>cZ B w.2.2).map V.int))
 have nw:lw≠x:=fun z=>by rw [z,x6] at hlw;cases hlw
 have nwq:lq≠lw:=ay e6lq hlw
 refine⟨_,rfl,x,_,_,_,rfl,(w6 _ _ x6),T.cl_Pouring,T.n_Pouring_whole,(by show 2 < 1000;decide),?_⟩
 generalize hh7:ax (ax H6 lw (.lst ((ws.map fun w=>cZ B w.2.2).map V.int))) x (.ins t.c_Pouring dx (dt "whole" (.ref lw) [("inside", .ref a),("most", .int (cZ B r))]))=H7
 have x7:H7 x=some (.ins t.c_Pouring dx [("inside", .ref a),("most", .int (cZ B r)),("whole", .ref lw)]):=by rw [← hh7];exact ae
 have e7lq:H7 lq=some (.lst (V.int (cZ B r) :: (ws.map fun w=>cZ B w.2.2).map V.int)):=by rw [← hh7,aj nq];exact w6 _ _ e6lq
 have e7lw:H7 lw=some (.lst ((ws.map fun w=>cZ B w.2.2).map V.int)):=by rw [← hh7,aj nw];exact ae
 have k7:∀ b o,b≠x->H b=some o->H7 b=some o:=fun b o nb e=>by rw [← hh7,aj nb];exact w6 _ _ (k6 b o nb e)
 clear hh7
 refine⟨_,rfl,_,rfl,lq,_,rfl,aF.of e7lq,fun lr hlr=>?_⟩
 rw [ct]
 have w7:=ai hlr (.lst ((ws.map fun w=>cZ B w.2.2).map V.int))
 have nr:lr≠x:=fun z=>by rw [z,x7] at hlr;cases hlr
 have nrw:lw≠lr:=ay e7lw hlr
 refine⟨_,rfl,x,_,_,_,rfl,(w7 _ _ x7),T.cl_Pouring,T.n_Pouring_rest,(by show 3 < 1000;decide),?_⟩
 generalize hh8:ax (ax H7 lr (.lst ((ws.map fun w=>cZ B w.2.2).map V.int))) x (.ins t.c_Pouring dx (dt "rest" (.ref lr) [("inside", .ref a),("most", .int (cZ B r)),("whole", .ref lw)]))=H8
 have x8:H8 x=some (.ins t.c_Pouring dx [("inside", .ref a),("most", .int (cZ B r)),("whole", .ref lw),("rest", .ref lr)]):=by rw [← hh8];exact ae
 have e8lq:H8 lq=some (.lst (V.int (cZ B r) :: (ws.map fun w=>cZ B w.2.2).map V.int)):=by rw [← hh8,aj nq];exact w7 _ _ e7lq
 have e8lw:H8 lw=some (.lst ((ws.map fun w=>cZ B w.2.2).map V.int)):=by rw [← hh8,aj nw];exact w7 _ _ e7lw
 have e8lr:H8 lr=some (.lst ((ws.map fun w=>cZ B w.2.2).map V.int)):=by rw [← hh8,aj nr];exact ae
 have k8:∀ b o,b≠x->H b=some o->H8 b=some o:=fun b o nb e=>by rw [← hh8,aj nb];exact w7 _ _ (k7 b o nb e)
 clear hh8
 have hF8:aF K H8 b (av fr):=by
  rcases hF with (q | ⟨o,q⟩) | q
  ·exact .inl (.inl (k8 _ _ nbx q))
  ·exact .inl (.inr ⟨o,k8 _ _ nbx q⟩)
  ·exact .inr q
 have bq60:(B / r.2).natAbs < 2 ^ 60:=by
  have h1:=Int.le_of_dvd (by omega) bd
  have h2:=Int.ediv_le_self r.2 (Int.le_of_lt b0)
  have h3:=Int.ediv_nonneg (Int.le_of_lt b0) (Int.le_of_lt r2)
  omega
 have nf:(av fr).length=24:=by unfold av;rw [List.length_map,f24]
 refine⟨_,rfl,b,rfl,⟨_,hF8⟩,fun lo hlo=>bn (c7 hF8) (fun _=>true) (fun i=>V.int (cZ B r * ((fr.getD i 0:Nat):Int))) hlo (by omega) (fun i y H' hi s' hy R E kR kE=>?_) fun H9 s9 h9=>?_⟩
 ·obtain⟨f,hf,rfl⟩:=bZ hy
  rw [aq 0 hf] at kR
  refine⟨dM.set rfl,_,rfl,lq,_,_,_,rfl,rfl,aF.of (s' _ _ e8lq),aJ (j:=0) rfl,_,rfl,_,_,rfl,rfl,⟨?_,?_⟩,kR rfl _ (az.refl _)⟩
  ·exact aW (gK (n:=60) (m:=60) r60 bq60) (by decide)
  ·exact Nat.lt_of_lt_of_le (show ((f:Nat):Int).natAbs < 2 ^ 40 from f40 f (List.mem_of_getElem? hf)) (Nat.pow_le_pow_right (by decide) (by decide))
 rw [nf] at h9
 have h9':H9 lo=some (.lst ((fr.map fun f:Nat=>cZ B r * (f:Int)).map V.int)):=by
  have e:=bg 0 (fun f:Nat=>V.int (cZ B r * (f:Int))) fr
  rw [f24] at e
  rw [h9,e,List.map_map]
  rfl
 have nlo:lo≠x:=fun z=>by rw [z,x8] at hlo;cases hlo
 refine⟨_,rfl,x,_,_,_,rfl,(s9 _ _ x8),T.cl_Pouring,T.n_Pouring_room,(by show 4 < 1000;decide),?_⟩
 generalize hh10:ax H9 x (.ins t.c_Pouring dx (dt "room" (.ref lo) [("inside", .ref a),("most", .int (cZ B r)),("whole", .ref lw),("rest", .ref lr)]))=H10
 have x10:H10 x=some (.ins t.c_Pouring dx [("inside", .ref a),("most", .int (cZ B r)),("whole", .ref lw),("rest", .ref lr),("room", .ref lo)]):=by rw [← hh10];exact ae
 have e10lw:H10 lw=some (.lst ((ws.map fun w=>cZ B w.2.2).map V.int)):=by rw [← hh10,aj nw];exact s9 _ _ e8lw
 have e10lr:H10 lr=some (.lst ((ws.map fun w=>cZ B w.2.2).map V.int)):=by rw [← hh10,aj nr];exact s9 _ _ e8lr
 have e10lo:H10 lo=some (.lst ((fr.map fun f:Nat=>cZ B r * (f:Int)).map V.int)):=by rw [← hh10,aj nlo];exact h9'
 have k10:∀ b o,b≠x->H b=some o->H10 b=some o:=fun b o nb e=>by rw [← hh10,aj nb];exact s9 _ _ (k8 b o nb e)
 clear hh10
 have hS10:aF K H10 a xs:=by
  rcases hS with (q | ⟨o,q⟩) | q
  ·exact .inl (.inl (k10 _ _ nax q))
  ·exact .inl (.inr ⟨o,k10 _ _ nax q⟩)
  ·exact .inr q
 refine⟨_,rfl,a,rfl,⟨_,hS10⟩,fun lp hlp=>mi (J:=oh K a) (n:=xs.length) (fun i ys H'=>∃ rows:List Addr,ys=rows.map V.ref/\rows.length=i/\rows.Nodup/\lp∉rows/\(∀ q∈rows,H10 q=none)/\az H10 H'/\H' lp=some (.lst ys)/\∀ q∈rows,H' q=some (.lst (Ax.map V.int))) ⟨[],rfl,rfl,List.nodup_nil,(fun z=>by cases z),(fun r hr=>by cases hr),ai hlp _,ae,fun r hr=>by cases hr⟩ (fun i ys H' hi ⟨rows,_,_,_,_,_,e6,_,_⟩=>⟨xs,_,e6.seq hS10,List.getElem?_eq_getElem hi⟩) (fun ys H' ⟨rows,e1,e2,e3,e4,e5,e6,e7,e8⟩=>⟨⟨xs,e6.seq hS10,Nat.le_refl _⟩,?_⟩) ?_⟩
 ·have nlp:lp≠x:=fun z=>by rw [z,x10] at hlp;cases hlp
  have nx:∀ q∈rows,q≠x:=fun q hq z=>by have:=e5 q hq;rw [z,x10] at this;cases this
  have fr0:∀ q,q≠x->H10 q=none->H q=none:=fun q nq h=>by
   cases c:H q with
   | none=>rfl
   | some o=>rw [k10 q o nq c] at h;cases h
  refine⟨_,rfl,x,_,_,_,rfl,(e6 _ _ x10),T.cl_Pouring,T.n_Pouring_poured,(by show 5 < 1000;decide),?_⟩
  have x11:=e6 _ _ x10
  refine k ⟨x,a,lw,lr,lo,lp,rows⟩ B _ (fun b o nb e=>by rw [aj nb];exact e6 _ _ (k10 b o nb e)) rfl rfl ?_ b0 bd rB wB ?_
  ·intro q hq nq
   have hq':q=x∨q=lw∨q=lr∨q=lo∨q=lp∨q∈rows:=by
    unfold fZ.l at hq
    simpa [or_assoc] using hq
   rcases hq' with z | rfl | rfl | rfl | rfl | z
   ·exact absurd z nq
   ·exact none_of (fun o=>k6 _ o nq) hlw
   ·exact none_of (fun o=>k7 _ o nq) hlr
   ·exact none_of (fun o=>k8 _ o nq) hlo
   ·exact fr0 _ nq hlp
   ·exact fr0 _ nq (e5 _ z)
  ·have n1:lw≠lr:=nrw
   have n2:lw≠lo:=ay e8lw hlo
   have n3:lr≠lo:=ay e8lr hlo
   have n4:lw≠lp:=ay e10lw hlp
   have n5:lr≠lp:=ay e10lr hlp
   have n6:lo≠lp:=ay e10lo hlp
   have nrow:∀ q∈rows,q≠lw/\q≠lr/\q≠lo:=fun q hq=>by
    have h:=e5 q hq
    exact⟨(fun z=>by rw [z,e10lw] at h;cases h),(fun z=>by rw [z,e10lr] at h;cases h),(fun z=>by rw [z,e10lo] at h;cases h)⟩
   have na:∀ q,q∈[lw,lr,lo,lp]++rows->H q=none->a≠q:=fun q _ h=>ay hA h
   have tst:∀ o:HO,be K H (ax H' x o):=fun o b zs h=>by
    rcases h with (h | ⟨o,h⟩) | h
    ·have nb:b≠x:=fun z=>by rw [z,hx] at h;cases h
     exact .inl (.inl (by rw [aj nb];exact e6 _ _ (k10 _ _ nb h)))
    ·have nb:b≠x:=fun z=>by rw [z,hx] at h;cases h
     exact .inl (.inr ⟨o,by rw [aj nb];exact e6 _ _ (k10 _ _ nb h)⟩)
    ·exact .inr h
   refine⟨⟨dx,ae⟩,⟨xs,aF.of (by rw [aj nax];exact e6 _ _ (k10 _ _ nax hA)),al.mono fun _ _ z=>z.mono (tst _)⟩,(by rw [aj nw];exact e6 _ _ e10lw),(by rw [aj nr];exact e6 _ _ e10lr),(by rw [aj nlo];exact e6 _ _ e10lo),(by rw [aj nlp,e7,e1]),?_,fun i q r' h1 h2=>?_,?_,?_⟩
   ·show rows.length=(List.replicate ws.length Ax).length
    rw [List.length_replicate,e2,hlen]
   ·have m:=List.mem_of_getElem? h1
    have h2':(List.replicate ws.length Ax)[i]?=some r':=h2
    rw [(List.mem_replicate.mp (List.mem_of_getElem? h2')).2]
    show ax H' x _ q=_
    rw [aj (nx q m)]
    exact e8 q m
   ·show ([x,lw,lr,lo,lp]++rows).Nodup
    simp only [List.cons_append,List.nil_append,List.nodup_cons,List.mem_cons,not_or]
    exact⟨⟨nw.symm,nr.symm,nlo.symm,nlp.symm,fun m=>nx x m rfl⟩,⟨n1,n2,n4,fun m=>(nrow _ m).1 rfl⟩,⟨n3,n5,fun m=>(nrow _ m).2.1 rfl⟩,⟨n6,fun m=>(nrow _ m).2.2 rfl⟩,e4,e3⟩
   ·show a∉[x,lw,lr,lo,lp]++rows
    intro m
    have m':a=x∨a=lw∨a=lr∨a=lo∨a=lp∨a∈rows:=by simpa [or_assoc] using m
    have a10:=k10 _ _ nax hA
    rcases m' with z | z | z | z | z | z
    ·exact nax z
    ·rw [← z] at hlw;rw [k6 _ _ nax hA] at hlw;cases hlw
    ·rw [← z] at hlr;rw [k7 _ _ nax hA] at hlr;cases hlr
    ·rw [← z] at hlo;rw [k8 _ _ nax hA] at hlo;cases hlo
    ·rw [← z,a10] at hlp;cases hlp
    ·have:=e5 _ z;rw [a10] at this;cases this
 rintro i ys H1 y H2 hi ⟨rows,rfl,e2,e3,e4,e5,e6,e7,e8⟩ ⟨rfl,_⟩ R E kR kE
 refine⟨dM.set rfl,?_⟩
 refine⟨wN,fun q hq=>?_⟩
 have s1:=ai hq (.lst [.int 0])
 refine⟨q,.int 0,24,rfl,rfl,ae,by omega,fun r hr=>?_⟩
 have s2:=ai hr (.lst (List.replicate 24 (.int 0)))
 have s12:=s1.trans s2
 have nr_:r∉rows:=fun m=>by rw [s1 _ _ (e8 r m)] at hr;cases hr
 have nD:r≠lp:=fun z=>by subst z;rw [s1 _ _ e7] at hr;cases hr
 have hD4:=s12 _ _ e7
 refine kR (.ref r) _ hD4 (aZ (by rw [List.length_map];omega)) ⟨rows++[r],by rw [List.map_append];rfl,by rw [List.length_append,e2];rfl,?_,?_,fun z hz=>?_,fun b o q=>?_,ae,fun z hz=>?_⟩
 ·rw [List.nodup_append]
  exact⟨e3,List.nodup_cons.mpr ⟨(fun z=>by cases z),List.nodup_nil⟩,fun a ha b hb=>by rw [List.mem_singleton.mp hb];exact fun z=>nr_ (by rw [← z];exact ha)⟩
 ·intro m
  rcases List.mem_append.mp m with z | z
  ·exact e4 z
  ·exact nD (List.mem_singleton.mp z).symm
 ·rcases List.mem_append.mp hz with y | y
  ·exact e5 z y
  ·rw [List.mem_singleton.mp y]
   cases c:H10 r with
   | none=>rfl
   | some o=>rw [s1 _ _ (e6 _ _ c)] at hr;cases hr
 ·rw [aj (ay q hlp)]
  exact s12 _ _ (e6 _ _ q)
 ·rcases List.mem_append.mp hz with y | y
  ·rw [aj (show z≠lp from fun w=>e4 (by rw [← w];exact y))]
   exact s12 _ _ (e8 z y)
  ·rw [List.mem_singleton.mp y,aj nD,ae]
   rfl
theorem BE (T:eK K mg t):bh P w K mg base dC 1 t.a_Q8 t.d_Q8 ["self", "node"] (ge K t.c_Pouring):=by
 refine T.F_Q8.ok qV (fun vs H Q E h=>?_) (fun cdv A outer s H vs Q E hr h=>?_)
 ·obtain⟨_,_,_,rfl,_⟩:=h;rfl
 obtain⟨p,s₀,v,rfl,pv,ok,hv,k⟩:=h
 refine df.ok (ac (bT 2 qV.nd (aD aC (by rfl) T.z_len boot_len (aa (bY (qv 0) rfl) af dP)))
   (ac (cE (aN tF (qv 1) (qv 2) (aV _)) (ak (aT (aU (N':=["number", "node", "count", "self"]) (src:=[none,some 1,some 2,some 0]) rfl (by exact (bx rfl T.z_range (aa (qv 2) af ad))) (fun _ _ _ _ _=>(by exact (by exact aB (i:=0) (by show List.Nodup (["number", "node", "count", "self"]:List Str);decide +kernel) (by exact rfl) (by first | exact Or.inl rfl | exact Or.inr rfl)))) (fun _ _ _ _ _=>(cD (aN gY (by exact (bu (bV (K:=K) (by exact rfl)) (by exact (bu (bV (K:=K) (by exact rfl)) (by exact (fo (K:=K) (by exact rfl) (by exact (qv 3)) (by exact rfl))) (by exact (qv 0)) (by exact fun _ _=>rfl))) (by exact (aA cG (by exact (qv 1)) (by exact (qv 2)))) (by exact fun _ _=>rfl))) ah (aV _)))) (fun _ _ _ _ _=>(by exact (by exact (qv 0)))) (by exact⟨rfl,rfl,rfl,rfl,⟨rfl,rfl,rfl,rfl,⟨rfl,rfl,rfl,rfl,trivial⟩⟩⟩) rfl (by decide +kernel) rfl (by decide +kernel) (by exact aQ rfl ⟨rfl,⟨rfl,⟨rfl,trivial⟩⟩⟩)))) bK)
   (ac (bT 3 qV.nd (bW aL (bY (qv 0) rfl) (qv 1)))
   (ak (aT (aU (N':=["turn", "count", "self", "node"]) (src:=[none,some 2,some 0,some 1]) rfl (by exact (pK rfl T.z_range (aa (bu aH (qv 3) ah (fun _ _=>rfl)) (aa (aA cj (bu aH (qv 3) ah (fun _ _=>rfl)) ah) af aP) aS))) (fun _ _ _ _ _=>(by exact (by exact aB (i:=0) (by show List.Nodup (["turn", "count", "self", "node"]:List Str);decide +kernel) (by exact rfl) (by first | exact Or.inl rfl | exact Or.inr rfl)))) (fun _ _ _ _ _=>(cD (aN jJ (by exact (bu (bV (K:=K) (by exact rfl)) (by exact (bu (bV (K:=K) (by exact rfl)) (by exact (fo (K:=K) (by exact rfl) (by exact (qv 2)) (by exact rfl))) (by exact (qv 3)) (by exact fun _ _=>rfl))) (by exact (qv 0)) (by exact fun _ _=>rfl))) (by exact (fo (K:=K) (by exact rfl) (by exact (qv 2)) (by exact rfl))) (aV _)))) (fun _ _ _ _ _=>(by exact (by exact (aA cj (by exact (qv 1)) (by exact (qv 0)))))) (by exact⟨rfl,rfl,rfl,rfl,⟨rfl,rfl,rfl,rfl,⟨rfl,rfl,rfl,rfl,trivial⟩⟩⟩) rfl (by decide +kernel) rfl (by decide +kernel) (by exact aQ rfl ⟨rfl,⟨rfl,⟨rfl,trivial⟩⟩⟩))))))) ?_
 extract_lets +lift
 try dsimp -zeta -zetaDelta only [Cx.nox,Cx.wish,bO]
 obtain⟨dx,hi⟩:=pv.ins
 obtain⟨xs,hx,al⟩:=pv.hi
 have hlen:=al.len
 refine⟨_,rfl,p.a,_,_,_,_,rfl,hi,T.cl_Pouring,T.n_Pouring_inside,rfl,p.li,_,rfl,.inl hx,?_⟩
 refine⟨_,rfl,_,rfl,_,_,rfl,rfl,_,rfl,?_⟩
 have n20:=ok.n20
 have hpl:=pv.rl
 have olp:=ok.lp
 have at2:=fun (H':Hp) (z:az H H') (i t:Nat) (hi:i < s₀.ws.length) (ht:t < 24)=>(pv.same z).cell ok hi ht
 by_cases c:s₀.ws.length≤v
 ·refine cq (by omega) ?_
  refine⟨_,rfl,xs.length,rfl,by omega,by omega,fun D hD=>bn (d9 (lo:=0) (n:=((xs.length:Nat):Int).toNat)) (fun i=>decide (0 < s₀.pf i (v - s₀.ws.length))) (fun i=>V.int (i:Nat)) hD (by omega) (fun i x H' hi' s' hx' R E kR kE=>?_) fun H4 s4 h4=>?_⟩
  ·subst hx'
   rw [Int.zero_add]
   obtain⟨q,r,g1,g2,g3,g4⟩:=at2 H' s' i (v - s₀.ws.length) (by omega) (by omega)
   refine⟨dM.set rfl,_,rfl,p.a,_,_,_,_,rfl,s' _ _ hi,T.cl_Pouring,T.n_Pouring_poured,rfl,_,rfl,p.lp,_,_,_,rfl,rfl,aF.of g1,aJ g2,_,rfl,_,rfl,_,_,rfl,rfl,q,_,_,_,rfl,rfl,aF.of g3,(by rw [show (v:Int) - (xs.length:Nat)=((v - s₀.ws.length:Nat):Int) by omega];exact aJ g4),_,_,rfl,rfl,_,rfl,?_⟩
   by_cases d:0 < s₀.pf i (v - s₀.ws.length)
   ·exact cq (by omega) ⟨_,rfl,kR (decide_eq_true d) _ (az.refl _)⟩
   ·exact ca (by omega) (kE (decide_eq_false d) _ (az.refl _))
  ·refine k D H4 s4 hD ?_
   rw [h4,Int.toNat_natCast,hlen]
   unfold de av
   rw [if_pos c]
 refine ca (by omega) ?_
 obtain⟨xw,hxw⟩:∃ xw,xs[v]?=some xw:=⟨_,List.getElem?_eq_getElem (by omega)⟩
 obtain⟨w,hw,pw,am,rfl,hpw,ram⟩:=al.at hxw
 have ew:s₀.ws.getD v cC=w:=aq cC hw
 obtain⟨w1,w2⟩:=ok.wk w (List.mem_of_getElem? hw)
 refine⟨_,rfl,p.a,_,_,_,_,rfl,hi,T.cl_Pouring,T.n_Pouring_inside,rfl,_,rfl,p.li,_,_,_,rfl,rfl,hx,aJ hxw,?_⟩
 refine⟨_,rfl,pw,_,_,_,rfl,rfl,hpw,rfl,_,rfl,pw,_,_,_,rfl,rfl,hpw,rfl,_,_,rfl,rfl,(w.1:Int),(w.2.1:Int)+1,rfl,⟨by omega,by omega,by omega,by omega⟩,fun D hD=>bn (d9 (lo:=(w.1:Int)) (n:=((w.2.1:Int)+1 - (w.1:Int)).toNat)) (fun j=>decide (s₀.pf v (w.1+j) < s₀.M)) (fun j=>V.int ((s₀.ws.length+(w.1+j):Nat):Int)) hD (by omega) (fun i x H' hi' s' hx' R E kR kE=>?_) fun H4 s4 h4=>?_⟩
 ·subst hx'
  obtain⟨q,r,g1,g2,g3,g4⟩:=at2 H' s' v (w.1+i) (by omega) (by omega)
  have ei:(w.1:Int)+(i:Nat)=((w.1+i:Nat):Int):=by omega
  rw [ei]
  refine⟨dM.set rfl,_,rfl,p.a,_,_,_,_,rfl,s' _ _ hi,T.cl_Pouring,T.n_Pouring_poured,rfl,_,rfl,p.lp,_,_,_,rfl,rfl,aF.of g1,aJ g2,_,rfl,q,_,_,_,rfl,rfl,aF.of g3,aJ g4,_,rfl,p.a,_,_,_,_,rfl,s' _ _ hi,T.cl_Pouring,T.n_Pouring_most,rfl,_,_,rfl,rfl,_,rfl,?_⟩
  by_cases d:s₀.pf v (w.1+i) < s₀.M
  ·refine cq (by omega) ⟨_,rfl,_,rfl,_,_,rfl,rfl,?_⟩
   have q:=kR (decide_eq_true d) _ (az.refl _)
   rw [show ((s₀.ws.length+(w.1+i):Nat):Int)=((xs.length:Nat):Int)+((w.1+i:Nat):Int) by omega] at q
   exact q
  ·exact ca (by omega) (kE (decide_eq_false d) _ (az.refl _))
 ·refine k D H4 s4 hD ?_
  rw [h4,show ((w.2.1:Int)+1 - (w.1:Int)).toNat=w.2.1+1 - w.1 by omega]
  unfold de av
  rw [if_neg c,ew,List.map_map]
  rfl
theorem xk (T:eK K mg t):bh P w K mg base dC 2 t.a_Q6 t.d_Q6 ["self", "numbers"] (fS K t.c_Pouring):=by
 refine T.F_Q6.ok gU (fun vs H Q E h=>?_) (fun cdv A outer s H vs Q E hr h=>?_)
 ·obtain⟨_,_,_,_,rfl,_⟩:=h;rfl
 obtain⟨p,s₀,a,ns,rfl,pv,ok,hS,nd,lt,k⟩:=h
 refine df.ok (ac (bT 2 gU.nd gt)
   (ac (bT 3 gU.nd (cO kT (by rfl) T.z_list boot_list (aa (qv 1) af ad)))
   (ac (cf PassesOwn.never rfl (aX (qv 1)) (aB (i:=4) gU.nd rfl (by first | exact Or.inl rfl | exact Or.inr rfl))
   (ak (gk (dY hr) (qv 2) (qv 4) ss rfl)))
   (ac (bT 5 gU.nd ah)
   (ac (cV PassesOwn.never (aN jJ (qv 5) (aD aC (by rfl) T.z_len boot_len (aa (qv 3) af ad)) (aV _))
   (ac (bT 6 gU.nd (bW aL (qv 3) (qv 5)))
   (ac (cf PassesOwn.never rfl (aX (cR (qv 0) T.cl_Pouring T.M_Pouring_beside (BE T) (hr.mono (by decide)) T.b_Q8 .nil c6 (aa (qv 6) af ad))) (aB (i:=7) gU.nd rfl (by first | exact Or.inl rfl | exact Or.inr rfl))
   (ak (cE (jI (dY hr) (qv 7) (qv 2) (by with_unfolding_all rfl)) (ac (gk (dY hr) (qv 2) (qv 7) (qv 6) rfl)
   (ak (da (iS PySem.F.plainAttrs_list PySem.F.slot_list_append PySem.F.type_list_append ck (qv 3) (aa (qv 7) af ad))))) bK)))
   (ak (yB (i:=5) gU.nd rfl (by first | exact Or.inl rfl | exact Or.inr rfl) ah t9)))))
   (ak (aT (qv 2)))))))) ?_
 extract_lets +lift
 try dsimp -zeta -zetaDelta only [Cx.nox,Cx.wish,bO]
 refine fun d hd=>?_
 have s1:=ai hd (.dK [])
 have e1:ax H d (.dK []) d=some (.dK (bL [])):=ae
 generalize ax H d (.dK [])=H1 at s1 e1 ⊢
 refine⟨_,rfl,a,av ns,rfl,.inl (s1.seq hS),fun lr hlr=>?_⟩
 have s2:=ai hlr (.lst (av ns))
 have r2:ax H1 lr (.lst (av ns)) lr=some (.lst (av ns)):=ae
 have e2:=s2 _ _ e1
 have ndr:d≠lr:=ay e1 hlr
 generalize ax H1 lr (.lst (av ns))=H2 at s2 r2 e2 ⊢
 have s02:=s1.trans s2
 have h0r:H lr=none:=by
  cases q:H lr with
  | none=>rfl
  | some o=>rw [s1 _ _ q] at hlr;cases hlr
 have nl:(av ns).length=ns.length:=List.length_map _
 let Iv1:Nat->L2.St->Hp->Prop:=fun i σ H'=>∃ x4:Option V,σ=[some (.ref p.a),some (.ref a),some (.ref d),some (.ref lr),x4,none,none,none]/\(∀ b o,b≠d->H2 b=some o->H' b=some o)/\H' d=some (.dK (bL ((ns.take i).map fun v=>(v,none))))
 refine⟨_,rfl,a,rfl,⟨_,s02.seq hS⟩,cJ (K:=K) (a:=a) (xs:=av ns) Iv1 ⟨none,rfl,fun _ _ _ e=>e,e2⟩ (fun i σ H' _ ⟨_,_,k',_⟩=>(show az H H' from fun b o e=>k' b o (fun z=>by rw [z,hd] at e;cases e) (s02 _ _ e)).seq hS) ?_ ?_⟩
 ·rintro i x σ H3 hx ⟨x4,rfl,k3,e3⟩
  obtain⟨v,hv,rfl⟩:=bZ hx
  have il:=(List.getElem?_eq_some_iff.mp hv).1
  have nv:v∉((ns.take i).map fun v=>((v,none):Nat×Option Nat)).map (·.1):=fun m=>by
   rw [List.map_map] at m
   have m':v∈ns.take i:=by
    obtain⟨w,hw,e⟩:=List.mem_map.mp m
    have e':w=v:=e
    rw [← e'];exact hw
   obtain⟨j,hj,ej⟩:=List.mem_iff_getElem.mp m'
   rw [List.length_take] at hj
   rw [List.getElem_take] at ej
   have ei:=(List.getElem?_eq_some_iff.mp hv).2
   have:=(List.getElem_inj nd).mp (ej.trans ei.symm)
   omega
  refine⟨_,rfl,_,rfl,d,_,rfl,jk.k (k:=Sum.inl (v:Int)) e3 (by unfold bL;rw [List.length_map,List.length_map,List.length_take,sizeLine_eq];have:=eC nd lt;have:=ok.n20;omega),?_⟩
  refine⟨_,rfl,fun b o nb e=>by rw [aj nb];exact k3 b o nb e,?_⟩
  rw [ae,List.take_add_one,hv]
  show some (HO.dK (db (bL ((ns.take i).map fun v=>(v,none))) (Sum.inl (v:Int)) (oV none)))=_
  rw [Bo nv,List.map_append]
  rfl
 rintro σ H3 ⟨x4,rfl,k3,e3⟩
 rw [nl,List.take_length] at e3
 have S0:=pG (s:=s₀) nd lt
 have r3:=k3 _ _ ndr.symm r2
 have rk:av ns=av ((ns.map fun v=>((v,none):Nat×Option Nat)).map (·.1)):=by rw [List.map_map];exact congrArg av (List.map_id _).symm
 rw [rk] at r3
 generalize (ns.map fun v=>((v,none):Nat×Option Nat))=sl0 at e3 S0 r3
 have n20:=ok.n20
 let Iv2:Nat->L2.St->Hp->Prop:=fun m σ H'=>∃ (sl:Sl) (pl:Nat) (x6 x7:Option V),σ=[some (.ref p.a),some (.ref a),some (.ref d),some (.ref lr),x4,some (.int (pl:Nat)),x6,x7]/\(∀ b o,b≠d->b≠lr->H2 b=some o->H' b=some o)/\H' d=some (.dK (bL sl))/\H' lr=some (.lst (av (sl.map (·.1))))/\gQ s₀ ns sl/\AA s₀ sl pl/\pl≤sl.length/\m=s₀.ws.length+24 - pl
 refine⟨Iv2,⟨_,sl0,0,none,none,rfl,fun b o nb _ e=>k3 b o nb e,e3,r3,S0,(fun i v o hi=>by omega),Nat.zero_le _,rfl⟩,?_⟩
 rintro m σ H4 ⟨sl,pl,x6,x7,rfl,k4,e4,r4,S4,C4,l4,rfl⟩
 have ln4:(av (sl.map (·.1))).length=sl.length:=by unfold av;rw [List.length_map,List.length_map]
 have sll:=iN S4
 have m4:az H H4:=fun b o e=>k4 b o (fun z=>by rw [z,hd] at e;cases e) (fun z=>by rw [z,h0r] at e;cases e) (s02 _ _ e)
 refine⟨_,rfl,_,rfl,lr,_,rfl,.inl (aF.of r4),_,_,rfl,rfl,_,rfl,?_⟩
 by_cases c:pl < sl.length
 rotate_left
 ·refine ca (by omega) ?_
  have:pl=sl.length:=by omega
  subst this
  exact⟨_,rfl,k d sl H4 m4 hd S4 C4 e4⟩
 refine cq (by omega) ?_
 refine⟨_,fun _ _ z=>z,?_⟩
 obtain⟨⟨v,o⟩,hvo⟩:∃ x,sl[pl]?=some x:=⟨_,List.getElem?_eq_getElem c⟩
 have vk:(av (sl.map (·.1)))[pl]?=some (.int (v:Nat)):=by unfold av;rw [List.getElem?_map,List.getElem?_map,hvo];rfl
 have hv:v < s₀.ws.length+24:=S4.lt _ (List.mem_of_getElem? hvo)
 refine⟨_,rfl,_,rfl,lr,_,_,_,rfl,rfl,aF.of r4,aJ vk,?_⟩
 have pv4:=pv.same m4
 obtain⟨dx4,hi4⟩:=pv4.ins
 refine⟨_,rfl,p.a,_,_,rfl,hi4,rfl,_,rfl,p,s₀,v,rfl,pv4,ok,hv,fun lb HB sB hlb eB=>?_⟩
 have nbd:lb≠d:=fun z=>by rw [z,e4] at hlb;cases hlb
 have nbr:lb≠lr:=fun z=>by rw [z,r4] at hlb;cases hlb
 let Iv3:Nat->L2.St->Hp->Prop:=fun j σ H'=>∃ (ex:Sl) (y7:Option V),σ=[some (.ref p.a),some (.ref a),some (.ref d),some (.ref lr),x4,some (.int (pl:Nat)),some (.int (v:Nat)),y7]/\(∀ b o,b≠d->b≠lr->HB b=some o->H' b=some o)/\H' d=some (.dK (bL (sl++ex)))/\H' lr=some (.lst (av ((sl++ex).map (·.1))))/\gQ s₀ ns (sl++ex)/\∀ u∈(de s₀ v).take j,u∈(sl++ex).map (·.1)
 refine⟨lb,rfl,⟨_,aF.of eB⟩,cJ (K:=K) (a:=lb) (xs:=av (de s₀ v)) Iv3 ⟨[],x7,rfl,fun _ _ _ _ e=>e,(by rw [List.append_nil];exact sB _ _ e4),(by rw [List.append_nil];exact sB _ _ r4),(by rw [List.append_nil];exact S4),(fun u hu=>by cases hu)⟩ (fun j σ H' _ ⟨_,_,_,k',_⟩=>aF.of (k' _ _ nbd nbr eB)) ?_ ?_⟩
 ·rintro j x σ H5 hx ⟨ex,y7,rfl,k5,e5,r5,S5,C5⟩
  obtain⟨u,hu,rfl⟩:=bZ hx
  have mu:=List.mem_of_getElem? hu
  have ul:=Ag ok hv mu
  have tk:∀ w∈(de s₀ v).take (j+1),w∈(de s₀ v).take j∨w=u:=fun w hw=>by
   rw [List.take_add_one,hu] at hw
   rcases List.mem_append.mp hw with z | z
   ·exact .inl z
   ·exact .inr (by simpa using z)
  have s5l:=iN S5
  refine⟨_,rfl,_,rfl,d,_,rfl,fj.k (k:=Sum.inl (u:Int)) e5,_,rfl,?_⟩
  rw [xJ]
  by_cases cu:u∈(sl++ex).map (·.1)
  ·rw [decide_eq_true cu]
   refine ib ?_
   refine⟨ex,_,rfl,k5,e5,r5,S5,fun w hw=>?_⟩
   rcases tk w hw with z | z
   ·exact C5 w z
   ·rw [z];exact cu
  rw [decide_eq_false cu]
  refine jt ?_
  refine⟨_,rfl,_,rfl,_,rfl,d,_,rfl,jk.k (k:=Sum.inl (u:Int)) (v:=V.int (v:Nat)) e5 (by unfold bL;rw [List.length_map,sizeLine_eq];omega),?_⟩
  rw [show V.int (v:Nat)=oV (some v) from rfl,Bo cu]
  have r6:ax H5 d (.dK (bL (sl++ex++[(u,some v)]))) lr=some (.lst (av ((sl++ex).map (·.1)))):=by rw [aj ndr.symm];exact r5
  have e6:ax H5 d (.dK (bL (sl++ex++[(u,some v)]))) d=some (.dK (bL (sl++ex++[(u,some v)]))):=ae
  have k6:∀ b o,b≠d->b≠lr->HB b=some o->ax H5 d (.dK (bL (sl++ex++[(u,some v)]))) b=some o:=fun b o n1 n2 e=>by rw [aj n1];exact k5 b o n1 n2 e
  generalize ax H5 d (.dK (bL (sl++ex++[(u,some v)])))=H6 at r6 e6 k6 ⊢
  refine⟨_,rfl,.inl ⟨rfl,_,aF.of r6⟩,_,rfl,lr,_,_,rfl,rfl,r6,aZ (by unfold av;rw [List.length_map,List.length_map];omega),?_⟩
  have S6:=S5.more ul cu mu (j:=pl) (o:=o) (by rw [List.getElem?_append_left c];exact hvo)
  rw [List.append_assoc] at e6 S6
  refine⟨ex++[(u,some v)],_,rfl,fun b o n1 n2 e=>by rw [aj n2];exact k6 b o n1 n2 e,(by rw [aj ndr];exact e6),?_,S6,fun w hw=>?_⟩
  ·have en:av ((sl++ex++[(u,some v)]).map (·.1))=av ((sl++ex).map (·.1))++[V.int (u:Nat)]:=by
    unfold av
    rw [List.map_append (l₁:=sl++ex),List.map_append]
    rfl
   rw [ae,← List.append_assoc,en]
  ·rw [← List.append_assoc,List.map_append]
   rcases tk w hw with z | z
   ·exact List.mem_append_left _ (C5 w z)
   ·rw [z];exact List.mem_append_right _ (List.mem_singleton.mpr rfl)
 ·rintro σ H5 ⟨ex,y7,rfl,k5,e5,r5,S5,C5⟩
  have lb_:(av (de s₀ v)).length=(de s₀ v).length:=List.length_map _
  rw [lb_,List.take_length] at C5
  have C6:AA s₀ (sl++ex) (pl+1):=fun i w o' hi hw u hu=>by
   by_cases ci:i < pl
   ·rw [List.getElem?_append_left (by omega)] at hw
    have q:=C4 i w o' ci hw u hu
    rw [List.map_append]
    exact List.mem_append_left _ q
   ·obtain rfl:i=pl:=by omega
    rw [List.getElem?_append_left c,hvo] at hw
    injection hw with hw
    injection hw with hw _
    subst hw
    exact C5 u hu
  refine⟨_,rfl,_,_,rfl,rfl,?_⟩
  have ei:((pl:Nat):Int)+1=((pl+1:Nat):Int):=by omega
  refine⟨s₀.ws.length+24 - (pl+1),by omega,sl++ex,pl+1,_,_,by rw [← ei];rfl,fun b o n1 n2 e=>k5 b o n1 n2 (sB _ _ (k4 b o n1 n2 e)),e5,r5,S5,C6,by rw [List.length_append];omega,rfl⟩
theorem xl (T:eK K mg t):bh P w K mg base dC 1 t.a_Q5 t.d_Q5 ["self", "sources"] (fI K t.c_Pouring):=by
 refine T.F_Q5.ok xb (fun vs H Q E h=>?_) (fun cdv A outer s H vs Q E hr h=>?_)
 ·obtain⟨_,_,_,_,rfl,_⟩:=h;rfl
 obtain⟨p,s₀,d,sl,rfl,pv,ok,e,l60,k⟩:=h
 refine df.ok (ac (bT 2 xb.nd (aD aC (by rfl) T.z_len boot_len (aa (bY (qv 0) rfl) af dP)))
   (ak (aT (aU (N':=["node", "count"]) (src:=[none,some 2]) rfl (by exact (ve (qv 1))) (fun _ _ _ _ _=>(by exact (by exact aB (i:=0) (by show List.Nodup (["node", "count"]:List Str);decide +kernel) (by exact rfl) (by first | exact Or.inl rfl | exact Or.inr rfl)))) (fun _ _ _ _ _=>(cD (aN tF (by exact (qv 0)) (by exact (qv 1)) (aV _)))) (fun _ _ _ _ _=>(by exact (by exact (aA cG (by exact (qv 0)) (by exact (qv 1)))))) (by exact⟨rfl,rfl,rfl,rfl,trivial⟩) rfl (by decide +kernel) rfl (by decide +kernel) (by exact aQ rfl ⟨rfl,trivial⟩))))) ?_
 extract_lets +lift
 try dsimp -zeta -zetaDelta only [Cx.nox,Cx.wish,bO]
 obtain⟨dx,hi⟩:=pv.ins
 obtain⟨xs,hx,al⟩:=pv.hi
 have hlen:=al.len
 refine⟨_,rfl,p.a,_,_,_,_,rfl,hi,T.cl_Pouring,T.n_Pouring_inside,rfl,p.li,_,rfl,.inl hx,?_⟩
 refine⟨_,rfl,d,bL sl,rfl,e,fun ob D hD=>?_⟩
 have le:(bL sl).length=sl.length:=List.length_map _
 have e2:ax H d (.frz ob (.dK (bL sl))) d=some (.frz ob (.dK (bL sl))):=ae
 have k2:∀ b o,b≠d->H b=some o->ax H d (.frz ob (.dK (bL sl))) b=some o:=fun b o nb q=>by rw [aj nb];exact q
 have hD0:H D=none:=by
  cases q:H D with
  | none=>rfl
  | some o=>
   by_cases c:D=d
   ·rw [c,e2] at hD;cases hD
   ·rw [k2 _ _ c q] at hD;cases hD
 generalize ax H d (.frz ob (.dK (bL sl)))=H1 at hD e2 k2 ⊢
 refine bn (qz e2) (fun i=>decide (s₀.ws.length≤(sl.getD i (0,none)).1)) (fun i=>V.int (((sl.getD i (0,none)).1 - s₀.ws.length:Nat):Int)) hD (by omega) (fun i x H' hi' s' hx' R E kR kE=>?_) fun H4 s4 h4=>?_
 ·obtain⟨kk,vv,rfl,hkv⟩:=hx'
  obtain⟨y,hy,rfl,rfl⟩:=z7 hkv
  have g:sl.getD i (0,none)=y:=aq _ hy
  rw [g] at kR kE
  refine⟨dM.set rfl,_,rfl,_,rfl,_,_,rfl,rfl,_,rfl,?_⟩
  by_cases c:s₀.ws.length≤y.1
  ·refine cq (by omega) ⟨_,rfl,_,rfl,_,_,rfl,rfl,?_⟩
   have q:=kR (decide_eq_true c) _ (az.refl _)
   rw [show ((y.1 - s₀.ws.length:Nat):Int)=((y.1:Nat):Int) - ((xs.length:Nat):Int) by omega] at q
   exact q
  ·exact ca (by omega) (kE (decide_eq_false c) _ (az.refl _))
 ·refine k D ob H4 (fun b o nb q=>s4 _ _ (k2 b o nb q)) (s4 _ _ e2) hD0 ?_
  rw [h4,le]
  unfold fP av
  rw [List.map_map]
  rfl
theorem BI (T:eK K mg t):bh P w K mg base dC 3 t.a_Q1 t.d_Q1 ["self", "number"] (eM K t.c_Pouring):=by
 refine T.F_Q1.ok Ba (fun vs H Q E h=>?_) (fun cdv A outer s H vs Q E hr h=>?_)
 ·obtain⟨_,_,_,rfl,_⟩:=h;rfl
 obtain⟨p,s₀,v,rfl,pv,F,hv,k⟩:=h
 refine df.ok (ak (aT (aD (qk rfl) (by rfl) T.z_any boot_any (aa (aU (N':=["turn", "self"]) (src:=[none,some 0]) rfl (by exact (aX (cR (qv 0) T.cl_Pouring T.M_Pouring_turns_of (xl T) (hr.mono (by decide)) T.b_Q5 .nil c6 (aa (cR (qv 0) T.cl_Pouring T.M_Pouring_reached (xk T) (hr.mono (by decide)) T.b_Q6 .nil c6 (aa (bP (aa (qv 1) af ad)) af lF)) af aG)))) (fun _ _ _ _ _=>(by exact (by exact aB (i:=0) (by show List.Nodup (["turn", "self"]:List Str);decide +kernel) (by exact rfl) (by first | exact Or.inl rfl | exact Or.inr rfl)))) (fun _ _ _ _ _=>bJ) (fun _ _ _ _ _=>(by exact (by exact (vg gY (by exact (bu (bV (K:=K) (by exact rfl)) (by exact (fo (K:=K) (by exact rfl) (by exact (qv 1)) (by exact rfl))) (by exact (qv 0)) (by exact fun _ _=>rfl))) ah (aV _))))) (by exact⟨rfl,rfl,rfl,rfl,trivial⟩) rfl (by decide +kernel) rfl (by decide +kernel) (by exact aQ rfl ⟨rfl,trivial⟩)) af c8)))) ?_
 extract_lets +lift
 try dsimp -zeta -zetaDelta only [Cx.nox,Cx.wish,bO]
 have ok:=F.ok
 obtain⟨dx,hi⟩:=pv.ins
 refine⟨_,rfl,p.a,_,_,rfl,hi,rfl,_,rfl,p.a,_,_,rfl,hi,rfl,_,rfl,wN,fun l1 hl1=>?_⟩
 have s1:=ai hl1 (.lst [.int (v:Nat)])
 have e1:ax H l1 (.lst [.int (v:Nat)]) l1=some (.lst (av [v])):=ae
 generalize ax H l1 (.lst [.int (v:Nat)])=H1 at s1 e1 ⊢
 refine⟨p,s₀,l1,[v],rfl,pv.same s1,ok,aF.of e1,(List.nodup_cons.mpr ⟨(fun z=>nomatch z),List.nodup_nil⟩),fun w hw=>by rw [List.mem_singleton.mp hw];exact hv,fun d sl H2 s2 hd S C e2=>?_⟩
 have s02:=s1.trans s2
 have sll:=iN S
 have n20:=ok.n20
 have h0d:H d=none:=by
  cases q:H d with
  | none=>rfl
  | some o=>rw [s1 _ _ q] at hd;cases hd
 refine⟨p,s₀,d,sl,rfl,pv.same s02,ok,e2,by omega,fun l3 ob H3 k3 e3 hl3 h3=>?_⟩
 have s03:az H H3:=fun b o e=>k3 b o (fun z=>by rw [z,h0d] at e;cases e) (s02 _ _ e)
 have pv3:=pv.same s03
 obtain⟨dx3,hi3⟩:=pv3.ins
 have tl:(fP s₀.ws.length sl).length≤60:=by
  unfold fP
  rw [List.length_map]
  refine Nat.le_trans (List.length_filter_le _ _) ?_
  rw [List.length_range]
  omega
 have nl:(av (fP s₀.ws.length sl)).length=(fP s₀.ws.length sl).length:=List.length_map _
 refine⟨l3,rfl,⟨_,aF.of h3⟩,fun D hD=>bn (c7 (aF.of h3)) (fun _=>true) (fun i=>V.bl (decide (0 < s₀.O.getD ((fP s₀.ws.length sl).getD i 0) 0))) hD (by omega) (fun i x H' hi' s' hx' R E kR kE=>?_) fun H4 s4 h4=>?_⟩
 ·obtain⟨tt,htt,rfl⟩:=bZ hx'
  have tlt:=qB S (List.mem_of_getElem? htt)
  rw [aq 0 htt] at kR
  have olo:=ok.lo
  refine⟨dM.set rfl,_,rfl,p.a,_,_,_,_,rfl,s' _ _ hi3,T.cl_Pouring,T.n_Pouring_room,rfl,_,rfl,p.lo,_,_,_,rfl,rfl,aF.of (s' _ _ pv3.ho),aJ (cw (by omega)),_,_,rfl,rfl,?_⟩
  exact kR rfl _ (az.refl _)
 ·rw [nl] at h4
  have e4:=bg 0 (fun t:Nat=>V.bl (decide (0 < s₀.O.getD t 0))) (l:=fP s₀.ws.length sl)
  rw [e4,show (fP s₀.ws.length sl).map (fun t:Nat=>V.bl (decide (0 < s₀.O.getD t 0)))=((fP s₀.ws.length sl).map fun t:Nat=>decide (0 < s₀.O.getD t 0)).map V.bl by rw [List.map_map];rfl] at h4
  refine⟨D,_,rfl,aF.of h4,?_⟩
  rw [AM F hv S C]
  exact k H4 (s03.trans s4)
theorem BJ (T:eK K mg t):bh P w K mg base dC 1 t.a_Q0 t.d_Q0 ["self", "source", "node"] (dQ K t.c_Pouring):=by
 refine T.F_Q0.ok xc (fun vs H Q E h=>?_) (fun cdv A outer s H vs Q E hr h=>?_)
 ·obtain⟨_,_,_,_,rfl,_⟩:=h;rfl
 obtain⟨p,s₀,u,v,rfl,pv,ok,ed,k⟩:=h
 refine df.ok (ac (bT 3 xc.nd (aD aC (by rfl) T.z_len boot_len (aa (bY (qv 0) rfl) af dP)))
   (ac (cE (aN jJ (qv 1) (qv 3) (aV _)) (ak (aT (aA cG (bY (qv 0) rfl) (bW aL (bW aL (bY (qv 0) rfl) (qv 1)) (aA cG (qv 2) (qv 3)))))) bK)
   (ak (aT (bW aL (bW aL (bY (qv 0) rfl) (qv 2)) (aA cG (qv 1) (qv 3))))))) ?_
 extract_lets +lift
 try dsimp -zeta -zetaDelta only [Cx.nox,Cx.wish,bO]
 obtain⟨dx,hi⟩:=pv.ins
 obtain⟨xs,hx,al⟩:=pv.hi
 have hlen:=al.len
 refine⟨_,rfl,p.a,_,_,_,_,rfl,hi,T.cl_Pouring,T.n_Pouring_inside,rfl,p.li,_,rfl,.inl hx,?_⟩
 refine⟨_,rfl,_,rfl,_,_,rfl,rfl,_,rfl,?_⟩
 by_cases c:u < s₀.ws.length
 ·refine cq (by omega) ?_
  have hv:s₀.ws.length≤v/\v < s₀.ws.length+24:=by
   rcases ed with ⟨_,a,b⟩ | ⟨a,_,_⟩ <;> omega
  obtain⟨q,r,g1,g2,g3,g4⟩:=pv.cell ok (t:=v - s₀.ws.length) c (by omega)
  refine⟨_,rfl,p.a,_,_,_,_,rfl,hi,T.cl_Pouring,T.n_Pouring_most,rfl,_,rfl,p.a,_,_,_,_,rfl,hi,T.cl_Pouring,T.n_Pouring_poured,rfl,_,rfl,p.lp,_,_,_,rfl,rfl,aF.of g1,aJ g2,_,rfl,_,rfl,_,_,rfl,rfl,q,_,_,_,rfl,rfl,aF.of g3,(by rw [show (v:Int) - (xs.length:Nat)=((v - s₀.ws.length:Nat):Int) by omega];exact aJ g4),_,_,rfl,rfl,?_⟩
  unfold tQ at k
  rw [if_pos c] at k
  exact k
 ·refine ca (by omega) ?_
  have hv:u < s₀.ws.length+24/\v < s₀.ws.length:=by
   rcases ed with ⟨_,a,b⟩ | ⟨a,_,_⟩ <;> omega
  obtain⟨q,r,g1,g2,g3,g4⟩:=pv.cell ok (t:=u - s₀.ws.length) hv.2 (by omega)
  refine⟨_,rfl,p.a,_,_,_,_,rfl,hi,T.cl_Pouring,T.n_Pouring_poured,rfl,_,rfl,p.lp,_,_,_,rfl,rfl,aF.of g1,aJ g2,_,rfl,_,rfl,_,_,rfl,rfl,q,_,_,_,rfl,rfl,aF.of g3,(by rw [show (u:Int) - (xs.length:Nat)=((u - s₀.ws.length:Nat):Int) by omega];exact aJ g4),?_⟩
  unfold tQ at k
  rw [if_neg c] at k
  exact k
theorem zz (T:eK K mg t):bh P w K mg base dC 1 t.a_Q10 t.d_Q10 ["self", "source", "node", "amount"] (hX K t.c_Pouring):=by
 refine T.F_Q10.ok qW (fun vs H Q E h=>?_) (fun cdv A outer s H vs Q E hr h=>?_)
 ·obtain⟨_,_,_,_,_,rfl,_⟩:=h;rfl
 obtain⟨p,s₀,u,v,a,rfl,pv,ok,ed,k⟩:=h
 refine df.ok (ac (bT 4 qW.nd (aD aC (by rfl) T.z_len boot_len (aa (bY (qv 0) rfl) af dP)))
   (ak (cE (aN jJ (qv 1) (qv 4) (aV _)) (ak (iq (bW aL (bY (qv 0) rfl) (qv 1)) (aA cG (qv 2) (qv 4)) ft (qv 3) t9 eU)) (ak (iq (bW aL (bY (qv 0) rfl) (qv 2)) (aA cG (qv 1) (qv 4)) ft (qv 3) nL eU))))) ?_
 extract_lets +lift
 try dsimp -zeta -zetaDelta only [Cx.nox,Cx.wish,bO]
 obtain⟨dx,hi⟩:=pv.ins
 obtain⟨xs,hx,al⟩:=pv.hi
 have hlen:=al.len
 refine⟨_,rfl,p.a,_,_,_,_,rfl,hi,T.cl_Pouring,T.n_Pouring_inside,rfl,p.li,_,rfl,.inl hx,?_⟩
 refine⟨_,rfl,_,rfl,_,_,rfl,rfl,_,rfl,?_⟩
 by_cases c:u < s₀.ws.length
 ·refine cq (by omega) ?_
  have hv:s₀.ws.length≤v/\v < s₀.ws.length+24:=by
   rcases ed with ⟨_,a,b⟩ | ⟨a,_,_⟩ <;> omega
  have rl:=pv.rl
  have olp:=ok.lp
  have h1:u < p.rows.length:=by omega
  have h2:u < s₀.P.length:=by omega
  have e1:=List.getElem?_eq_getElem h1
  have e2:=List.getElem?_eq_getElem h2
  have r24:=ok.row _ (List.getElem_mem h2)
  have g:=pv.row _ _ _ e1 e2
  have ePf:s₀.pf u (v - s₀.ws.length)=(s₀.P[u]).getD (v - s₀.ws.length) 0:=by unfold Ps.pf;rw [aq [] e2]
  refine⟨_,rfl,p.a,_,_,_,_,rfl,hi,T.cl_Pouring,T.n_Pouring_poured,rfl,_,rfl,p.lp,_,_,_,rfl,rfl,aF.of pv.hp,aJ (by rw [List.getElem?_map,e1];rfl),_,rfl,_,rfl,_,_,rfl,rfl,p.rows[u],_,v - s₀.ws.length,_,rfl,(by show V.int _=V.int _;congr 1;omega),aF.of g,cw (by omega),_,rfl,_,_,rfl,rfl,p.rows[u],_,_,v - s₀.ws.length,rfl,rfl,g,(by rw [List.length_map,show (v:Int) - (xs.length:Nat)=((v - s₀.ws.length:Nat):Int) by omega];exact ix (by omega)),?_⟩
  rw [show (List.map V.int s₀.P[u]).set (v - s₀.ws.length) (V.int ((s₀.P[u]).getD (v - s₀.ws.length) 0+a))=((s₀.P[u]).set (v - s₀.ws.length) ((s₀.P[u]).getD (v - s₀.ws.length) 0+a)).map V.int from (List.map_set ..).symm]
  obtain⟨pw,ps⟩:=pv.setRow e1 ((s₀.P[u]).set (v - s₀.ws.length) ((s₀.P[u]).getD (v - s₀.ws.length) 0+a))
  refine k _ ps ?_
  unfold Ps.mv h7
  rw [if_pos c,aq [] e2,ePf]
  exact pw
 ·refine ca (by omega) ?_
  have hv:u < s₀.ws.length+24/\v < s₀.ws.length:=by
   rcases ed with ⟨_,a,b⟩ | ⟨a,_,_⟩ <;> omega
  have rl:=pv.rl
  have olp:=ok.lp
  have h1:v < p.rows.length:=by omega
  have h2:v < s₀.P.length:=by omega
  have e1:=List.getElem?_eq_getElem h1
  have e2:=List.getElem?_eq_getElem h2
  have r24:=ok.row _ (List.getElem_mem h2)
  have g:=pv.row _ _ _ e1 e2
  have ePf:s₀.pf v (u - s₀.ws.length)=(s₀.P[v]).getD (u - s₀.ws.length) 0:=by unfold Ps.pf;rw [aq [] e2]
  refine⟨_,rfl,p.a,_,_,_,_,rfl,hi,T.cl_Pouring,T.n_Pouring_poured,rfl,_,rfl,p.lp,_,_,_,rfl,rfl,aF.of pv.hp,aJ (by rw [List.getElem?_map,e1];rfl),_,rfl,_,rfl,_,_,rfl,rfl,p.rows[v],_,u - s₀.ws.length,_,rfl,(by show V.int _=V.int _;congr 1;omega),aF.of g,cw (by omega),_,rfl,_,_,rfl,rfl,p.rows[v],_,_,u - s₀.ws.length,rfl,rfl,g,(by rw [List.length_map,show (u:Int) - (xs.length:Nat)=((u - s₀.ws.length:Nat):Int) by omega];exact ix (by omega)),?_⟩
  rw [show (List.map V.int s₀.P[v]).set (u - s₀.ws.length) (V.int ((s₀.P[v]).getD (u - s₀.ws.length) 0 - a))=((s₀.P[v]).set (u - s₀.ws.length) ((s₀.P[v]).getD (u - s₀.ws.length) 0 - a)).map V.int from (List.map_set ..).symm]
  obtain⟨pw,ps⟩:=pv.setRow e1 ((s₀.P[v]).set (u - s₀.ws.length) ((s₀.P[v]).getD (u - s₀.ws.length) 0 - a))
  refine k _ ps ?_
  unfold Ps.mv h7
  rw [if_neg c,aq [] e2,ePf]
  exact pw
theorem BF (T:eK K mg t):bh P w K mg base dC 3 t.a_Q7 t.d_Q7 ["self", "number"] (fT K t.c_Pouring):=by
 refine T.F_Q7.ok w9 (fun vs H Q E h=>?_) (fun cdv A outer s H vs Q E hr h=>?_)
 ·obtain⟨_,_,_,rfl,_⟩:=h;rfl
 obtain⟨p,s₀,n,rfl,pv,ok,hn,gd,a0,a200,p200,k⟩:=h
 refine df.ok (ac (bT 2 w9.nd (bW aL (bY (qv 0) rfl) (qv 1)))
   (ak (aT (aU (N':=["part", "work", "number", "self"]) (src:=[none,some 2,some 1,some 0]) rfl (by exact (aX (bu aL (bY (qv 0) rfl) (qv 1) (fun _ _=>rfl)))) (fun _ _ _ _ _=>(by exact (by exact aB (i:=0) (by show List.Nodup (["part", "work", "number", "self"]:List Str);decide +kernel) (by exact rfl) (by first | exact Or.inl rfl | exact Or.inr rfl)))) (fun _ _ _ _ _=>bJ) (fun _ _ _ _ _=>(by exact (by exact (iu (tH T) (by exact hr.mono (by decide)) (by exact rfl) T.m_Q32 T.F_Q32.kp T.b_Q32 (by exact .nil) (by exact c6) (aa (by exact (bu (cm (K:=K) (by exact rfl)) (by exact (qv 1)) ah (by exact fun _ _=>rfl))) (aa (by exact (iu (nC T) (by exact hr.mono (by decide)) (by exact rfl) T.m_Q31 T.F_Q31.kp T.b_Q31 (by exact .nil) (by exact c6) (aa (by exact (qv 0)) (aa (by exact (bu (bV (K:=K) (by exact rfl)) (by exact (fo (K:=K) (by exact rfl) (by exact (qv 3)) (by exact rfl))) (by exact (qv 2)) (by exact fun _ _=>rfl))) af aS) ad))) af aG) aS))))) (by exact⟨rfl,rfl,rfl,rfl,⟨rfl,rfl,rfl,rfl,⟨rfl,rfl,rfl,rfl,trivial⟩⟩⟩) rfl (by decide +kernel) rfl (by decide +kernel) (by exact aQ rfl ⟨rfl,⟨rfl,⟨rfl,trivial⟩⟩⟩))))) ?_
 extract_lets +lift
 try dsimp -zeta -zetaDelta only [Cx.nox,Cx.wish,bO]
 obtain⟨dx,hi⟩:=pv.ins
 obtain⟨xs,hx,al⟩:=pv.hi
 have hlen:=al.len
 obtain⟨xw,hxw⟩:∃ xw,xs[n]?=some xw:=⟨_,List.getElem?_eq_getElem (by omega)⟩
 obtain⟨w,hw,pw,am,rfl,hpw,ram⟩:=al.at hxw
 have gw:=(gd w (List.mem_of_getElem? hw)).2.2.1
 refine⟨_,rfl,p.a,_,_,_,_,rfl,hi,T.cl_Pouring,T.n_Pouring_inside,rfl,_,rfl,p.li,_,_,_,rfl,rfl,hx,aJ hxw,?_⟩
 have hpl:=pv.rl
 have olp:=ok.lp
 have ola:=ok.la
 have h1:n < p.rows.length:=by omega
 have h2:n < s₀.P.length:=by omega
 have e1:=List.getElem?_eq_getElem h1
 have e2:=List.getElem?_eq_getElem h2
 have lr:=ok.row _ (List.getElem_mem h2)
 have g3:=pv.row n _ _ e1 e2
 refine⟨_,rfl,p.a,_,_,_,_,rfl,hi,T.cl_Pouring,T.n_Pouring_poured,rfl,_,rfl,p.lp,_,_,_,rfl,rfl,aF.of pv.hp,aJ (by rw [List.getElem?_map,e1];rfl),p.rows[n],rfl,⟨_,aF.of g3⟩,fun D hD=>dZ (K:=K) (P:=fun _ _ _=>True) (ds:=s₀.P[n]) (f:=fun z:Int=>z) (fun _ _ _ _ _ _=>True.intro) hD (aF.of g3) (List.length_map _) (by omega) (fun i y z H' hy hz s' R E kR=>?_) fun H2 ys s2 hD2 al2=>k _ _ s2⟩
 rw [List.getElem?_map,hz] at hy
 cases hy
 have pvs:=pv.same s'
 have il:=(List.getElem?_eq_some_iff.mp hz).1
 have ez:s₀.pf n i=z:=by unfold Ps.pf;rw [aq [] e2,aq 0 hz]
 have z200:=p200 i (by omega)
 rw [ez] at z200
 have wq:Wf 200 (cX z (s₀.A.getD n 0)):=tO a0 z200 a200
 refine⟨dM.set rfl,_,rfl,pw,_,_,_,rfl,rfl,be.same (K:=K) s' _ _ hpw,rfl,_,rfl,_,rfl,p.a,_,_,_,_,rfl,s' _ _ hi,T.cl_Pouring,T.n_Pouring_whole,rfl,_,rfl,p.lw,_,_,_,rfl,rfl,aF.of pvs.hw,aJ (cw (by omega)),_,_,rfl,a0,aW a200 (by decide),fun q hq=>?_⟩
 have s3:=ai hq (.tup [.int (cX z (s₀.A.getD n 0)).1,.int (cX z (s₀.A.getD n 0)).2])
 refine⟨_,_,w.2.2,_,20,200,rfl,(ram.mono (be.same s')).mono (be.same s3),RV.of ae,gw.wf (by decide) (by decide) (by decide),wq,by decide,fun q2 hq2=>?_⟩
 exact kR _ _ (s3.trans (ai hq2 _)) True.intro
theorem BH (T:eK K mg t):bh P w K mg base dC 2 t.a_Q2 t.d_Q2 ["self", "sources", "turn"] (eL K t.c_Pouring):=by
 refine T.F_Q2.ok iP (fun vs H Q E h=>?_) (fun cdv A outer s H vs Q E hr h=>?_)
 ·obtain⟨_,_,_,_,_,_,rfl,_⟩:=h;rfl
 obtain⟨p,s₀,d,ns,sl,tn,rfl,pv,F,hd,S,nz,mem,o0,k⟩:=h
 refine df.ok (ac (bT 3 iP.nd (aD aC (by rfl) T.z_len boot_len (aa (bY (qv 0) rfl) af dP)))
   (ac (bT 4 iP.nd (bP (aa (aA cj (qv 3) (qv 2)) af aP)))
   (ac (cV PassesOwn.never (aN vT (gu (dY hr) (qv 1) (bu aL (qv 4) (lQ iD ah) (fun _ _=>rfl)) (fun _ _=>rfl)) ss (aV _))
   (ak (da (iS PySem.F.plainAttrs_list PySem.F.slot_list_append PySem.F.type_list_append ck (qv 4) (aa (gu (dY hr) (qv 1) (bu aL (qv 4) (lQ iD ah) (fun _ _=>rfl)) (fun _ _=>rfl)) af aS)))))
   (ac (bT 5 iP.nd (bP (aa (bW aL (bY (qv 0) rfl) (qv 2)) (aa (bW aL (bY (qv 0) rfl) (bW aL (qv 4) (lQ iD ah))) af aS) aS)))
   (ac (cf PassesOwn.never rfl (bx rfl T.z_range (aa (aA cG (aD aC (by rfl) T.z_len boot_len (aa (qv 4) af ad)) ah) af aP)) (aB (i:=6) iP.nd rfl (by first | exact Or.inl rfl | exact Or.inr rfl))
   (ak (da (iS PySem.F.plainAttrs_list PySem.F.slot_list_append PySem.F.type_list_append ck (qv 5) (aa (cR (qv 0) T.cl_Pouring T.M_Pouring_most_between (BJ T) (hr.mono (by decide)) T.b_Q0 .nil c6 (aa (bW aL (qv 4) (aA cj (qv 6) ah)) (aa (bW aL (qv 4) (qv 6)) af aS) aS)) af aG)))))
   (ac (bT 7 iP.nd (aD (qh rfl) (by rfl) T.z_min boot_min (aa (qv 5) af ad)))
   (ac (iq (bY (qv 0) rfl) (qv 2) ft (qv 7) nL eU)
   (ac (iq (bY (qv 0) rfl) (bW aL (qv 4) (lQ iD ah)) ft (qv 7) nL eU)
   (ak (cf PassesOwn.never rfl (bx rfl T.z_range (aa (aA cG (aD aC (by rfl) T.z_len boot_len (aa (qv 4) af ad)) ah) af aP)) (aB (i:=6) iP.nd rfl (by first | exact Or.inl rfl | exact Or.inr rfl))
   (ak (da (cR (qv 0) T.cl_Pouring T.M_Pouring_move (zz T) (hr.mono (by decide)) T.b_Q10 .nil c6 (aa (bW aL (qv 4) (aA cj (qv 6) ah)) (aa (bW aL (qv 4) (qv 6)) (aa (qv 7) af ad) aS) aS)))))))))))))) ?_
 extract_lets +lift
 try dsimp -zeta -zetaDelta only [Cx.nox,Cx.wish,bO]
 have ok:=F.ok
 obtain⟨dx,hi⟩:=pv.ins
 obtain⟨xs,hx,al⟩:=pv.hi
 have hlen:=al.len
 refine⟨_,rfl,p.a,_,_,_,_,rfl,hi,T.cl_Pouring,T.n_Pouring_inside,rfl,p.li,_,rfl,.inl hx,?_⟩
 refine⟨_,rfl,_,rfl,_,_,rfl,rfl,wN,fun lw hlw=>?_⟩
 have s1:=ai hlw (.lst [.int ((xs.length:Nat)+(tn:Nat))])
 have e1:ax H lw (.lst [.int ((xs.length:Nat)+(tn:Nat))]) lw=some (.lst [.int ((xs.length:Nat)+(tn:Nat))]):=ae
 generalize ax H lw (.lst [.int ((xs.length:Nat)+(tn:Nat))])=H1 at s1 e1 ⊢
 rw [hlen,show ((s₀.ws.length:Nat):Int)+(tn:Nat)=((s₀.ws.length+tn:Nat):Int) by omega] at e1
 have hrd:∀ {H2:Hp},az H H2->Rd H2 d (.dK (bL sl)):=fun z=>by
  rcases hd with h | ⟨o,h⟩
  ·exact .inl (z _ _ h)
  ·exact .inr ⟨o,z _ _ h⟩
 obtain⟨x0,hx0,ex0⟩:=List.mem_map.mp mem
 obtain⟨i0,hi0,rfl⟩:=List.mem_iff_getElem.mp hx0
 have n20:=ok.n20
 have sll:=iN S
 have tn24:tn < 24:=by have:=S.lt _ hx0;omega
 refine⟨fun m σ H'=>∃ way:List Nat,σ=[some (.ref p.a),some (.ref d),some (.int (tn:Nat)),some (.int (xs.length:Nat)),some (.ref lw),none,none,none]/\(∀ b o,b≠lw->H1 b=some o->H' b=some o)/\H' lw=some (.lst (av way))/\uO s₀ way/\0 < way.length/\way.getD 0 0=s₀.ws.length+tn/\(∃ o,sl[m]?=some (way.getD (way.length - 1) 0,o))/\(∀ x∈way,∃ i o,m≤i/\sl[i]?=some (x,o)),⟨i0,[s₀.ws.length+tn],rfl,fun _ _ _ e=>e,e1,?_,Nat.one_pos,rfl,⟨sl[i0].2,?_⟩,fun x hx=>⟨i0,sl[i0].2,Nat.le_refl _,?_⟩⟩,?_⟩
 ·exact⟨(List.nodup_cons.mpr ⟨(fun z=>nomatch z),List.nodup_nil⟩),fun j hj=>absurd hj (by show ¬ j+1 < 1;omega),fun j hj=>by
   have:j=0:=by
    have:j < 1:=hj
    omega
   subst this
   show s₀.ws.length+tn < _
   omega⟩
 ·rw [List.getElem?_eq_getElem hi0]
  show some sl[i0]=some (s₀.ws.length+tn,_)
  rw [← ex0]
 ·rw [List.mem_singleton.mp hx,List.getElem?_eq_getElem hi0,← ex0]
 rintro m σ H2 ⟨way,rfl,k2,e2,W2,l2,w0,⟨o2,lst2⟩,ix2⟩
 have s2:az H H2:=fun b o e=>k2 b o (ay e hlw) (s1 _ _ e)
 have nl2:(av way).length=way.length:=List.length_map _
 have el:mC (av way) (-1)=some (.int ((way.getD (way.length - 1) 0:Nat):Int)):=v4 l2
 have wl:way.length≤s₀.ws.length+24:=eC W2.nd fun j hj=>by
  obtain⟨i,hi,rfl⟩:=List.mem_iff_getElem.mp hj
  have:=W2.lt i hi
  rw [aq 0 (List.getElem?_eq_getElem hi)] at this
  exact this
 refine⟨_,rfl,_,rfl,_,rfl,lw,_,_,_,rfl,rfl,aF.of e2,el,d,oV o2,rfl,.inl ⟨bL sl,Sum.inl _,hrd s2,rfl,(j7 S.nd lst2).symm⟩,rfl,_,rfl,?_⟩
 cases o2 with
 | some u=>
  rw [show decide (oV (some u)=V.non)=false from decide_eq_false (fun z=>nomatch z)]
  refine jt ?_
  refine⟨_,fun _ _ z=>z,?_⟩
  obtain⟨b,j,hj,oj,ej⟩:=S.src _ _ _ lst2
  refine⟨_,rfl,.inl ⟨rfl,_,aF.of e2⟩,_,rfl,_,rfl,_,rfl,lw,_,_,_,rfl,rfl,aF.of e2,el,d,oV (some u),rfl,.inl ⟨bL sl,Sum.inl _,hrd s2,rfl,(j7 S.nd lst2).symm⟩,lw,_,_,rfl,rfl,e2,aZ (by omega),?_⟩
  have nu:u∉way:=fun z=>by
   obtain⟨i,o,hi,ei⟩:=ix2 u z
   have:=xR S.nd ei ej
   omega
  have W3:=W2.more l2 nu b (S.lt _ (List.mem_of_getElem? ej))
  have ll:(way++[u]).length - 1=way.length:=by rw [List.length_append];rfl
  refine⟨j,hj,way++[u],rfl,fun b o nb e=>by rw [aj nb];exact k2 b o nb e,?_,W3,by rw [List.length_append];omega,by rw [eY l2];exact w0,⟨oj,by rw [ll,dH];exact ej⟩,fun x hx=>?_⟩
  ·rw [ae]
   unfold av
   rw [List.map_append]
   rfl
  ·rcases List.mem_append.mp hx with z | z
   ·obtain⟨i,o,hi,ei⟩:=ix2 x z
    exact⟨i,o,by omega,ei⟩
   ·rw [List.mem_singleton.mp z]
    exact⟨j,oj,Nat.le_refl _,ej⟩
 | none=>
  refine ib ?_
  have mla:=S.root _ (List.mem_of_getElem? lst2)
  obtain⟨la20,rla⟩:=nz _ mla
  generalize ela:way.getD (way.length - 1) 0=la at mla la20 rla el
  have pv2:=pv.same s2
  obtain⟨dx2,hi2⟩:=pv2.ins
  have olo:=ok.lo
  have olr:=ok.lr
  refine⟨_,rfl,p.a,_,_,_,_,rfl,hi2,T.cl_Pouring,T.n_Pouring_room,rfl,_,rfl,p.lo,_,_,_,rfl,rfl,aF.of pv2.ho,aJ (cw (by omega)),?_⟩
  refine⟨_,rfl,p.a,_,_,_,_,rfl,hi2,T.cl_Pouring,T.n_Pouring_rest,rfl,_,rfl,_,rfl,lw,_,_,_,rfl,rfl,aF.of e2,el,p.lr,_,_,_,rfl,rfl,aF.of pv2.hr,aJ (cw (by omega)),lu,fun lb hlb=>?_⟩
  have s3:=ai hlb (.lst [.int (s₀.O.getD tn 0),.int (s₀.R.getD la 0)])
  have e3:ax H2 lb (.lst [.int (s₀.O.getD tn 0),.int (s₀.R.getD la 0)]) lb=some (.lst ((wE s₀ way tn la 0).map V.int)):=ae
  have nbw:lb≠lw:=fun z=>by rw [z,e2] at hlb;cases hlb
  generalize ax H2 lb (.lst [.int (s₀.O.getD tn 0),.int (s₀.R.getD la 0)])=H3 at s3 e3 ⊢
  have s03:=s2.trans s3
  have w3:=s3 _ _ e2
  have hH_lb:H lb=none:=by
   cases q:H lb with
   | none=>rfl
   | some o=>rw [s2 _ _ q] at hlb;cases hlb
  have nlw:lw∉p.l:=fun z=>by
   rcases pv.kind z with ⟨_,_,q⟩ | ⟨_,q⟩ <;> rw [hlw] at q <;> cases q
  have nlb:lb∉p.l:=fun z=>by
   rcases pv.kind z with ⟨_,_,q⟩ | ⟨_,q⟩ <;> rw [hH_lb] at q <;> cases q
  have at':∀ {H':Hp} (j:Nat),j < way.length->H' lw=some (.lst (av way))->(av way)[j]?=some (.int ((way.getD j 0:Nat):Int)):=fun j hj _=>by
   unfold av
   rw [List.getElem?_map,List.getElem?_eq_getElem hj,aq 0 (List.getElem?_eq_getElem hj)]
   rfl
  let Iv1:Nat->L2.St->Hp->Prop:=fun i σ H'=>∃ y6:Option V,σ=[some (.ref p.a),some (.ref d),some (.int (tn:Nat)),some (.int (xs.length:Nat)),some (.ref lw),some (.ref lb),y6,none]/\(∀ b o,b≠lb->H3 b=some o->H' b=some o)/\H' lb=some (.lst ((wE s₀ way tn la i).map V.int))
  refine⟨_,rfl,lw,_,rfl,.inl (aF.of w3),_,_,rfl,rfl,_,rfl,by omega,by omega,cA (lo:=0) (n:=((((av way).length:Nat):Int) - 1).toNat) Iv1 ⟨none,rfl,fun _ _ _ e=>e,e3⟩ ?_ ?_⟩
  ·rintro i σ H4 hin ⟨y6,rfl,k4,e4⟩
   have s4:az H H4:=fun b o e=>k4 b o (ay e hH_lb) (s03 _ _ e)
   have pv4:=pv.same s4
   obtain⟨dx4,hi4⟩:=pv4.ins
   have w4:=k4 _ _ nbw.symm w3
   have hi':i+1 < way.length:=by omega
   rw [Int.zero_add]
   refine⟨_,rfl,.inl ⟨rfl,_,aF.of e4⟩,_,rfl,p.a,_,_,rfl,hi4,rfl,_,rfl,_,rfl,_,_,rfl,rfl,lw,_,_,_,rfl,rfl,aF.of w4,(by rw [show ((i:Nat):Int)+1=((i+1:Nat):Int) by omega];exact aJ (at' (i+1) hi' w4)),_,rfl,_,rfl,lw,_,_,_,rfl,rfl,aF.of w4,aJ (at' i (by omega) w4),p,s₀,_,_,rfl,pv4,ok,kU ok (W2.lt (i+1) hi') (W2.ed i hi'),lb,_,_,rfl,rfl,e4,aZ (by unfold wE;rw [List.length_map,List.length_append,List.length_map,List.length_range];show 2+i≤1000;omega),?_⟩
   refine⟨_,rfl,fun b o nb e=>by rw [aj nb];exact k4 b o nb e,?_⟩
   rw [ae,wD,List.map_append]
   rfl
  rintro σ H4 ⟨y6,rfl,k4,e4⟩
  have s4:az H H4:=fun b o e=>k4 b o (ay e hH_lb) (s03 _ _ e)
  have pv4:=pv.same s4
  have w4:=k4 _ _ nbw.symm w3
  obtain⟨dx4,hi4⟩:=pv4.ins
  have en:((((av way).length:Nat):Int) - 1).toNat=way.length - 1:=by omega
  rw [en] at e4
  refine⟨_,rfl,lb,_,rfl,aF.of e4,by unfold wE;rw [List.length_append];show 0 < 2+_;omega,fun a ha hle=>?_⟩
  have ao:=hle _ (show s₀.O.getD tn 0∈wE s₀ way tn la (way.length - 1) from List.mem_append_left _ (List.mem_cons_self ..))
  have ar:=hle _ (show s₀.R.getD la 0∈wE s₀ way tn la (way.length - 1) from List.mem_append_left _ (List.mem_cons_of_mem _ (List.mem_cons_self ..)))
  have am:∀ j,j+1 < way.length->a≤tQ s₀ (way.getD (j+1) 0) (way.getD j 0):=fun j hj=>hle _ (List.mem_append_right _ (List.mem_map.mpr ⟨j,List.mem_range.mpr (by omega),rfl⟩))
  have a0:0 < a:=by
   rcases List.mem_append.mp ha with z | z
   ·rcases List.mem_cons.mp z with z | z
    ·omega
    ·rw [List.mem_singleton.mp z];exact rla
   ·obtain⟨j,hj,rfl⟩:=List.mem_map.mp z
    have hj':=List.mem_range.mp hj
    exact zM ok (W2.lt (j+1) (by omega)) (W2.ed j (by omega))
  refine⟨_,rfl,p.a,_,_,_,_,rfl,hi4,T.cl_Pouring,T.n_Pouring_room,rfl,_,rfl,p.lo,_,tn,_,rfl,rfl,aF.of pv4.ho,cw (by omega),_,rfl,_,_,rfl,rfl,p.lo,_,_,tn,rfl,rfl,pv4.ho,ix (by rw [List.length_map];omega),?_⟩
  rw [show (List.map V.int s₀.O).set tn (V.int (s₀.O.getD tn 0 - a))=(s₀.O.set tn (s₀.O.getD tn 0 - a)).map V.int from (List.map_set ..).symm]
  obtain⟨pv5,st5⟩:=pv4.setO (s₀.O.set tn (s₀.O.getD tn 0 - a))
  have w5:=st5 _ _ nlw w4
  generalize ax H4 p.lo (.lst ((s₀.O.set tn (s₀.O.getD tn 0 - a)).map V.int))=H5 at pv5 st5 w5 ⊢
  obtain⟨dx5,hi5⟩:=pv5.ins
  refine⟨_,rfl,p.a,_,_,_,_,rfl,hi5,T.cl_Pouring,T.n_Pouring_rest,rfl,_,rfl,_,rfl,lw,_,_,_,rfl,rfl,aF.of w5,el,p.lr,_,la,_,rfl,rfl,aF.of pv5.hr,cw (show la < s₀.R.length by omega),_,rfl,_,_,rfl,rfl,p.lr,_,_,la,rfl,rfl,pv5.hr,ix (by rw [List.length_map];show la < s₀.R.length;omega),?_⟩
  rw [show (List.map V.int s₀.R).set la (V.int (s₀.R.getD la 0 - a))=(s₀.R.set la (s₀.R.getD la 0 - a)).map V.int from (List.map_set ..).symm]
  obtain⟨pv6,st6⟩:=pv5.setR (s₀.R.set la (s₀.R.getD la 0 - a))
  have w6:=st6 _ _ nlw w5
  generalize ax H5 p.lr (.lst ((s₀.R.set la (s₀.R.getD la 0 - a)).map V.int))=H6 at pv6 st6 w6 ⊢
  have pv6':d7 K t.c_Pouring H6 p (s₀.less tn la a):=pv6
  have st06:jj p H H6:=((jj.of s4).trans st5).trans st6
  have W6:uO (s₀.less tn la a) way:=⟨W2.nd,W2.ed,W2.lt⟩
  clear pv6
  let Iv2:Nat->L2.St->Hp->Prop:=fun i σ H'=>∃ y6:Option V,σ=[some (.ref p.a),some (.ref d),some (.int (tn:Nat)),some (.int (xs.length:Nat)),some (.ref lw),some (.ref lb),y6,some (.int a)]/\jj p H6 H'/\d7 K t.c_Pouring H' p (lc (s₀.less tn la a) way a i)
  refine⟨_,rfl,lw,_,rfl,.inl (aF.of w6),_,_,rfl,rfl,_,rfl,by omega,by omega,cA (lo:=0) (n:=((((av way).length:Nat):Int) - 1).toNat) Iv2 ⟨_,rfl,fun _ _ _ e=>e,pv6'⟩ ?_ ?_⟩
  ·rintro i σ H7 hin ⟨y7,rfl,k7,pv7⟩
   obtain⟨dx7,hi7⟩:=pv7.ins
   have w7:=k7 _ _ nlw w6
   have hi':i+1 < way.length:=by omega
   have m7:=Dd (oO ok tn la a) W6 a i (by omega)
   rw [Int.zero_add]
   refine⟨_,rfl,p.a,_,_,rfl,hi7,rfl,_,rfl,_,rfl,_,_,rfl,rfl,lw,_,_,_,rfl,rfl,aF.of w7,(by rw [show ((i:Nat):Int)+1=((i+1:Nat):Int) by omega];exact aJ (at' (i+1) hi' w7)),_,rfl,_,rfl,lw,_,_,_,rfl,rfl,aF.of w7,aJ (at' i (by omega) w7),_,rfl,p,_,_,_,a,rfl,pv7,m7.ok,(by
    have q:=kU ok (W2.lt (i+1) hi') (W2.ed i hi')
    unfold Au at q ⊢
    rw [m7.sm.ws]
    exact q),fun H8 st8 pv8=>?_⟩
   exact⟨_,rfl,k7.trans st8,pv8⟩
  ·rintro σ H7 ⟨y7,rfl,k7,pv7⟩
   rw [en] at pv7
   obtain⟨f1,f2,f3⟩:=B7 F W2 l2 tn24 w0 la20 ela a0 ao ar am
   exact k _ H7 (st06.trans k7) pv7 f1 f2 (vY F la20 a0 ar f3 f2.ws)
theorem zy (T:eK K mg t):bh P w K mg base dC 3 t.a_Q11 t.d_Q11 ["self"] (hW K t.c_Pouring):=by
 refine T.F_Q11.ok mX (fun vs H Q E h=>?_) (fun cdv A outer s H vs Q E hr h=>?_)
 ·obtain⟨_,_,rfl,_⟩:=h;rfl
 obtain⟨p,s₀,rfl,pv,F,k⟩:=h
 refine df.ok (ak (cV PassesOwn.never (ku oG)
   (ac (bT 1 mX.nd (cR (qv 0) T.cl_Pouring T.M_Pouring_reached (xk T) (hr.mono (by decide)) T.b_Q6 .nil c6 (aa (aU (N':=["number", "rest"]) (src:=[none,none]) rfl (by exact (iR rfl T.z_enumerate (aa (bY (qv 0) rfl) af dP))) (fun _ _ _ _ _=>(by exact (by exact kx (K:=K) (n:=2) (by exact rfl) (by exact rfl) (by exact b8 (by exact aB (i:=0) (by show List.Nodup (["number", "rest"]:List Str);decide +kernel) (by exact rfl) (by first | exact Or.inl rfl | exact Or.inr rfl)) (by exact b8 (by exact aB (i:=1) (by show List.Nodup (["number", "rest"]:List Str);decide +kernel) (by exact rfl) (by first | exact Or.inl rfl | exact Or.inr rfl)) fm))))) (fun _ _ _ _ _=>(cD (aN gY (by exact (qv 1)) ah (aV _)))) (fun _ _ _ _ _=>(by exact (by exact (qv 0)))) (by exact trivial) rfl (by decide +kernel) rfl (by decide +kernel) (by exact aQ rfl trivial)) af c8)))
   (ac (gj (i:=2) (N':=["turn", "self"]) (src:=[none,some 0]) mX.nd rfl (by first | exact Or.inl rfl | exact Or.inr rfl) rfl (by exact (aX (cR (qv 0) T.cl_Pouring T.M_Pouring_turns_of (xl T) (hr.mono (by decide)) T.b_Q5 .nil c6 (aa (qv 1) af ad)))) (fun _ _ _ _ _=>(by exact (by exact aB (i:=0) (by show List.Nodup (["turn", "self"]:List Str);decide +kernel) (by exact rfl) (by first | exact Or.inl rfl | exact Or.inr rfl)))) (fun _ _ _ _ _=>(cD (aN gY (by exact (bu (bV (K:=K) (by exact rfl)) (by exact (fo (K:=K) (by exact rfl) (by exact (qv 1)) (by exact rfl))) (by exact (qv 0)) (by exact fun _ _=>rfl))) ah (aV _)))) (fun _ _ _ _ _=>(by exact (by exact (qv 0)))) (by exact⟨rfl,rfl,rfl,rfl,trivial⟩) rfl (by decide +kernel) rfl (by decide +kernel) (by exact aQ rfl ⟨rfl,trivial⟩))
   (ac (cE (aN gZ (aD aC (by rfl) T.z_len boot_len (aa (qv 2) af ad)) ah (aV _)) (ak (aT (qv 1))) bK)
   (ak (da (cR (qv 0) T.cl_Pouring T.M_Pouring_pour_along (BH T) (hr.mono (by decide)) T.b_Q2 .nil c6 (aa (qv 1) (aa (bW aL (qv 2) ah) af aS) ad))))))))) ?_
 extract_lets +lift
 try dsimp -zeta -zetaDelta only [Cx.nox,Cx.wish,bO]
 refine⟨fun m σ H'=>∃ (s:Ps) (x1 x2:Option V),σ=[some (.ref p.a),x1,x2]/\jj p H H'/\d7 K t.c_Pouring H' p s/\pk s/\nZ s₀ s/\m=s.mu,⟨s₀.mu,s₀,none,none,rfl,fun _ _ _ e=>e,pv,F,.refl _,rfl⟩,?_⟩
 rintro m σ H1 ⟨s₁,x1,x2,rfl,st1,pv1,F1,sb1,rfl⟩
 refine⟨_,rfl,jt ⟨_,fun _ _ z=>z,?_⟩⟩
 have ok:=F1.ok
 have n20:=ok.n20
 have olr:=ok.lr
 have olo:=ok.lo
 obtain⟨dx,hi⟩:=pv1.ins
 have lm:(s₁.R.map V.int).length=s₁.ws.length:=by rw [List.length_map,olr]
 refine⟨_,rfl,p.a,_,_,rfl,hi,rfl,_,rfl,p.a,_,_,_,_,rfl,hi,T.cl_Pouring,T.n_Pouring_rest,rfl,p.lr,rfl,⟨_,aF.of pv1.hr⟩,fun D hD=>bn (j4 (aF.of pv1.hr)) (fun i=>decide (0 < s₁.R.getD i 0)) (fun i=>V.int (i:Nat)) hD (by omega) (fun i x H' hi' s' hx' R E kR kE=>?_) fun H4 s4 h4=>?_⟩
 ·obtain⟨pe,y,rfl,hy,hpe⟩:=hx'
  rw [cw (by omega)] at hy
  cases hy
  refine⟨pe,_,rfl,bS.of hpe,rfl,_,_,rfl,_,_,rfl,rfl,(dM.set rfl).set' rfl,_,rfl,_,_,rfl,rfl,_,rfl,?_⟩
  by_cases c:0 < s₁.R.getD i 0
  ·exact cq (by omega) ⟨_,rfl,kR (decide_eq_true c) _ (az.refl _)⟩
  ·exact ca (by omega) (kE (decide_eq_false c) _ (az.refl _))
 rw [lm] at h4
 have h4':H4 D=some (.lst (av (Az s₁))):=h4
 refine⟨p,s₁,D,Az s₁,rfl,pv1.same s4,ok,aF.of h4',List.nodup_range.filter _,fun v hv=>(gy.mp hv).1,fun d sl H5 s5 hd5 S C e5=>?_⟩
 have s15:=s4.trans s5
 have pv5:=pv1.same s15
 obtain⟨dx5,hi5⟩:=pv5.ins
 have sll:=iN S
 refine⟨_,rfl,p.a,_,_,rfl,hi5,rfl,_,rfl,p,s₁,d,sl,rfl,pv5,ok,e5,by omega,fun l6 ob H6 k6 e6 hl6 h6=>?_⟩
 have h1d:H1 d=none:=by
  cases q:H1 d with
  | none=>rfl
  | some o=>rw [s4 _ _ q] at hd5;cases hd5
 have s16:az H1 H6:=fun b o e=>k6 b o (fun z=>by rw [z,h1d] at e;cases e) (s15 _ _ e)
 have pv6:=pv1.same s16
 obtain⟨dx6,hi6⟩:=pv6.ins
 have tl:(fP s₁.ws.length sl).length≤60:=by
  unfold fP
  rw [List.length_map]
  refine Nat.le_trans (List.length_filter_le _ _) ?_
  rw [List.length_range]
  omega
 have nl:(av (fP s₁.ws.length sl)).length=(fP s₁.ws.length sl).length:=List.length_map _
 refine⟨l6,rfl,⟨_,aF.of h6⟩,fun D7 hD7=>bn (c7 (aF.of h6)) (fun i=>decide (0 < s₁.O.getD ((fP s₁.ws.length sl).getD i 0) 0)) (fun i=>V.int (((fP s₁.ws.length sl).getD i 0:Nat):Int)) hD7 (by omega) (fun i x H' hi' s' hx' R E kR kE=>?_) fun H8 s8 h8=>?_⟩
 ·obtain⟨tt,htt,rfl⟩:=bZ hx'
  have tlt:=qB S (List.mem_of_getElem? htt)
  rw [aq 0 htt] at kR kE
  refine⟨dM.set rfl,_,rfl,p.a,_,_,_,_,rfl,s' _ _ hi6,T.cl_Pouring,T.n_Pouring_room,rfl,_,rfl,p.lo,_,_,_,rfl,rfl,aF.of (s' _ _ pv6.ho),aJ (cw (by omega)),_,_,rfl,rfl,_,rfl,?_⟩
  by_cases c:0 < s₁.O.getD tt 0
  ·exact cq (by omega) ⟨_,rfl,kR (decide_eq_true c) _ (az.refl _)⟩
  ·exact ca (by omega) (kE (decide_eq_false c) _ (az.refl _))
 rw [nl] at h8
 have s18:=s16.trans s8
 have pv8:=pv1.same s18
 obtain⟨dx8,hi8⟩:=pv8.ins
 have e8:=s8 _ _ e6
 refine⟨_,rfl,D7,_,rfl,.inl (aF.of h8),rfl,_,rfl,?_⟩
 cases en:((List.range (fP s₁.ws.length sl).length).filter fun i=>decide (0 < s₁.O.getD ((fP s₁.ws.length sl).getD i 0) 0)) with
 | nil=>
  refine cq rfl ?_
  have no:∀ t∈fP s₁.ws.length sl,¬ 0 < s₁.O.getD t 0:=fun t ht z=>by
   obtain⟨i,hi,rfl⟩:=List.mem_iff_getElem.mp ht
   have m:i∈((List.range (fP s₁.ws.length sl).length).filter fun i=>decide (0 < s₁.O.getD ((fP s₁.ws.length sl).getD i 0) 0)):=List.mem_filter.mpr ⟨List.mem_range.mpr hi,decide_eq_true (by rw [aq 0 (List.getElem?_eq_getElem hi)];exact z)⟩
   rw [en] at m
   cases m
  exact⟨_,rfl,k s₁ sl d H8 (st1.trans (jj.of s18)) pv8 sb1 (vJ F1 S C no) (.inr ⟨ob,e8⟩)⟩
 | cons i0 r=>
  refine ca (fun z=>by injection z with z;rw [List.length_map,List.length_cons] at z;omega) ?_
  rw [en] at h8
  have m:i0∈((List.range (fP s₁.ws.length sl).length).filter fun i=>decide (0 < s₁.O.getD ((fP s₁.ws.length sl).getD i 0) 0)):=by rw [en];exact List.mem_cons_self
  obtain⟨m1,m2⟩:=List.mem_filter.mp m
  have il:=List.mem_range.mp m1
  have o2:=of_decide_eq_true m2
  have tm:(fP s₁.ws.length sl).getD i0 0∈fP s₁.ws.length sl:=by rw [aq 0 (List.getElem?_eq_getElem il)];exact List.getElem_mem il
  refine⟨_,rfl,p.a,_,_,rfl,hi8,rfl,_,rfl,_,rfl,D7,_,_,_,rfl,rfl,aF.of h8,aJ (j:=0) (by rw [List.map_cons];rfl),p,s₁,d,Az s₁,sl,_,rfl,pv8,F1,.inr ⟨ob,e8⟩,S,fun v hv=>gy.mp hv,kI.mp tm,o2,fun s' H9 st9 pv9 F9 sb9 mu9=>?_⟩
  exact⟨s'.mu,mu9,s',_,_,rfl,(st1.trans (jj.of s18)).trans st9,pv9,F9,sb1.trans sb9,rfl⟩
theorem BG (T:eK K mg t):bh P w K mg base dC 5 t.a_Q4 t.d_Q4 ["works", "free"] (fG K t.c_Pouring):=by
 refine T.F_Q4.ok jG (fun vs H Q E h=>?_) (fun cdv A outer s H vs Q E hr h=>?_)
 ·obtain⟨_,_,_,_,_,rfl,_⟩:=h;rfl
 obtain⟨a,b,xs,ws,fr,rfl,hA,al,g,w0,hF,f24,f20,pos,k⟩:=h
 refine df.ok (ac (bT 2 jG.nd (qv 0))
   (ak (cV PassesOwn.never (ku oG)
   (ac (bT 3 jG.nd (dr (zc T) hr T.m_Q37 T.F_Q37.kp T.b_Q37 (aa (qv 2) (aa (qv 1) af ad) ad)))
   (ac (bT 4 jG.nd (vf T.K_Pouring (BD T) (hr.mono (by decide)) rfl T.m_Pouring T.b_Q9 .nil c6 (aa (qv 0) (aa (qv 1) (aa (qv 3) af ad) ad) ad)))
   (ac (bT 5 jG.nd (su (qv 4) T.cl_Pouring T.M_Pouring_pour (zy T) (hr.mono (by decide)) T.b_Q11 .nil c6))
   (ac (cE (aN gZ (aD qj (by rfl) T.z_len boot_len (aa (qv 5) af ad)) ah (aV _)) (ak (aT (cF (aa (qv 3) (aa (qv 4) af ad) ad)))) bK)
   (ak (gj (i:=2) (N':=["number", "work", "sources"]) (src:=[none,none,some 5]) jG.nd rfl (by first | exact Or.inl rfl | exact Or.inr rfl) rfl (by exact (iR rfl T.z_enumerate (aa (qv 0) af ad))) (fun _ _ _ _ _=>(by exact (by exact kx (K:=K) (n:=2) (by exact rfl) (by exact rfl) (by exact b8 (by exact aB (i:=0) (by show List.Nodup (["number", "work", "sources"]:List Str);decide +kernel) (by exact rfl) (by first | exact Or.inl rfl | exact Or.inr rfl)) (by exact b8 (by exact aB (i:=1) (by show List.Nodup (["number", "work", "sources"]:List Str);decide +kernel) (by exact rfl) (by first | exact Or.inl rfl | exact Or.inr rfl)) fm))))) (fun _ _ _ _ _=>(cD (yz (by exact dY hr) (by exact (qv 0)) (by exact (qv 2)) (by with_unfolding_all rfl)))) (fun _ _ _ _ _=>(by exact (by exact (qv 1)))) (by exact⟨rfl,rfl,rfl,rfl,trivial⟩) rfl (by decide +kernel) rfl (by decide +kernel) (by exact aQ rfl ⟨rfl,trivial⟩)))))))))) ?_
 extract_lets +lift
 try dsimp -zeta -zetaDelta only [Cx.nox,Cx.wish,bO]
 have hlen:=al.len
 have l6:=g.len
 refine⟨_,rfl,?_⟩
 let Iv1:Nat->L2.St->Hp->Prop:=fun m σ H'=>∃ (S:Nat->Bool) (lg:Addr) (zs:List V) (x3 x4 x5:Option V),σ=[some (.ref a),some (.ref b),some (.ref lg),x3,x4,x5]/\az H H'/\aF K H' lg zs/\cQ (jn K H') zs (gW ws ((List.range ws.length).filter S))/\(∃ i,i < ws.length/\S i=true)/\m=CD ws fr (pq ws fr ((List.range ws.length).filter S))
 refine⟨Iv1,⟨_,fun _=>true,a,xs,none,none,none,rfl,az.refl _,aF.of hA,(by rw [List.filter_eq_self.mpr (by intros;rfl),ui];exact al),⟨0,w0,rfl⟩,rfl⟩,?_⟩
 rintro m σ H1 ⟨S,lg,zs,x3,x4,x5,rfl,s1,hG,alG,⟨i0,hi0,hS0⟩,rfl⟩
 refine⟨_,rfl,jt ⟨_,fun _ _ z=>z,?_⟩⟩
 have b0:=kA (S:=S) f24 pos (List.mem_range.mpr hi0) hS0
 have lG:(gW ws ((List.range ws.length).filter S)).length≤6:=by
  unfold gW
  rw [List.length_map]
  have:=List.length_filter_le S (List.range ws.length)
  rw [List.length_range] at this
  omega
 have gG:∀ w∈gW ws ((List.range ws.length).filter S),qr w:=fun w hw=>by
  obtain⟨i,hi,rfl⟩:=List.mem_map.mp hw
  exact g.gd _ (eS (List.mem_range.mp (List.mem_filter.mp hi).1))
 have nG:gW ws ((List.range ws.length).filter S)≠[]:=fun z=>by
  have m:i0∈(List.range ws.length).filter S:=List.mem_filter.mpr ⟨List.mem_range.mpr hi0,hS0⟩
  rw [List.map_eq_nil_iff.mp z] at m
  cases m
 have b144:=uB (ws:=gW ws ((List.range ws.length).filter S)) f24 lG
 obtain⟨pq1,pq2,pq3⟩:=oI f24 gG lG b0 nG
 have epq:pq ws fr ((List.range ws.length).filter S)=val (bH (gW ws ((List.range ws.length).filter S)) fr):=by
  have b':(0:Rat) < ((bi (gW ws ((List.range ws.length).filter S)) fr:Nat):Rat):=Rat.natCast_pos.mpr b0
  unfold pq
  rw [← pq3]
  generalize ((bi (gW ws ((List.range ws.length).filter S)) fr:Nat):Rat)=y at b' ⊢
  generalize val (bH (gW ws ((List.range ws.length).filter S)) fr)=x
  have:y≠0:=by grind
  grind
 refine⟨_,rfl,_,rfl,lg,b,zs,_,fr,rfl,hG,alG,by omega,fun w hw=>(gG w hw).2.2.1,aF.of (s1 _ _ hF),f24,b0,by omega,fun v H2 s2 rv=>?_⟩
 generalize er:bH (gW ws ((List.range ws.length).filter S)) fr=r at pq1 pq2 pq3 epq rv
 have s02:=s1.trans s2
 have rw60:Wf 60 r:=pq1.wf (by omega) (by omega) (by omega)
 refine⟨_,rfl,_,rfl,_,rfl,fun x dx hx hdx ndx=>?_⟩
 have sm3:az H2 (ax (ax H2 dx (.own x)) x (.ins t.c_Pouring dx [])):=(ai hdx _).trans (ai (by rw [aj ndx.symm];exact hx) _)
 have x3':ax (ax H2 dx (.own x)) x (.ins t.c_Pouring dx []) x=some (.ins t.c_Pouring dx []):=ae
 generalize ax (ax H2 dx (.own x)) x (.ins t.c_Pouring dx [])=H3 at sm3 x3' ⊢
 have s03:=s02.trans sm3
 have nbx:b≠x:=fun z=>by have:=s02 _ _ hF;rw [z,hx] at this;cases this
 refine⟨x,dx,a,b,v,xs,ws,fr,r,84 * bi (gW ws ((List.range ws.length).filter S)) fr,rfl,x3',s03 _ _ hA,al.mono (fun _ _ z=>z.mono (be.same s03)),g,nbx,aF.of (s03 _ _ hF),f24,fun f hf=>Nat.lt_of_le_of_lt (f20 f hf) (by decide),rv.mono (be.same sm3),pq1.pos,pq2,rw60.top,by omega,by omega,Nat.dvd_mul_right _ _,pq1.dvd,fun p B H5 k5 pa pli fresh B0 Bd rB wB pv5=>⟨rfl,?_⟩⟩
 subst pli
 have S25:az H2 H5:=fun c o e=>k5 c o (fun z=>by rw [z,hx] at e;cases e) (sm3 _ _ e)
 have fr2:∀ q∈p.l,H2 q=none:=fun q hq=>by
  by_cases z:q=x
  ·rw [z];exact hx
  ·exact none_of (fun o e=>sm3 _ _ e) (fresh q hq z)
 clear k5
 obtain⟨F5,L5⟩:=Br g f24 B0 pq1.pos rB pq2 wB
 obtain⟨dx5,hi5⟩:=pv5.ins
 rw [← pa]
 refine⟨_,rfl,p.a,_,_,rfl,hi5,rfl,p,_,rfl,pv5,F5,fun s6 sl d H6 st6 pv6 sb6 E6 rd6=>?_⟩
 have ew:s6.ws=ws:=sb6.ws
 have ef:s6.fr=fr:=sb6.fr
 have S26:az H2 H6:=fun c o e=>st6 c o (fun m=>by rw [fr2 c m] at e;cases e) (S25 c o e)
 have s06:=s02.trans S26
 have L6:AE s6 r B:=⟨B0,by rw [sb6.M];exact L5.M,fun i hi=>by rw [sb6.A,sb6.ws];rw [sb6.ws] at hi;exact L5.A i hi⟩
 have ev:dA (gW s6.ws ((List.range s6.ws.length).filter S))=val r * ((bi (gW s6.ws ((List.range s6.ws.length).filter S)) s6.fr:Nat):Rat):=by rw [ew,ef];exact pq3.symm
 have rn:0≤val r:=by
  have x1:(0:Rat) < ((r.1:Int):Rat):=io pq2
  have x2:(0:Rat) < ((r.2:Int):Rat):=io pq1.pos
  apply Rat.le_of_lt
  unfold val
  rw [Rat.lt_div_iff x2,Rat.zero_mul]
  exact x1
 refine⟨_,rfl,d,bL sl,rfl,rd6,rfl,_,rfl,?_⟩
 by_cases c:sl=[]
 ·refine cq (by rw [c];rfl) ?_
  refine⟨_,rfl,_,rfl,lu,fun q hq=>?_⟩
  have s7:=ai hq (.tup [v,.ref p.a])
  refine k q v p s6 r _ (s06.trans s7) (bS.of ae) ((rv.mono (be.same S26)).mono (be.same s7)) (pv6.same s7) ⟨E6.F,ew,ef,?_,fun i hi=>?_,?_,rw60⟩
  ·rw [sb6.M]
   exact xm B0 Bd (by omega) (by omega) pq1.pos rw60.top
  ·rw [sb6.A]
   show ((ws.map fun w=>cZ B w.2.2).getD i 0).natAbs < _
   rw [sQ hi]
   have gg:=g.gd _ (eS hi)
   exact xm B0 Bd (by omega) (by omega) gg.2.2.1.pos (gg.2.2.1.wf (n:=60) (by decide) (by decide) (by decide)).top
  ·have q:=EO E6.F L6 pq1.red rn (pT E6 c) (S₀:=S) (by rw [ew,ef];exact b0) ev
   rw [ew,ef] at q
   exact q
 refine ca (fun z=>c (by
  injection z with z
  unfold bL at z
  rw [List.length_map] at z
  exact List.length_eq_zero_iff.mp (by omega))) ?_
 have sh:=nA E6 L6 c
 rw [ew,ef] at sh
 have ln:xs.length=ws.length:=hlen
 refine⟨_,rfl,p.li,rfl,⟨_,aF.of (s06 _ _ hA)⟩,fun D hD=>bn (j4 (aF.of (s06 _ _ hA))) (fun i=>decide (i∈sl.map (·.1))) (fun i=>xs.getD i V.non) hD (by omega) (fun i y H' hi' s' hy R E kR kE=>?_) fun H8 s8 h8=>?_⟩
 ·obtain⟨pe,y',rfl,hy',hpe⟩:=hy
  rw [aq V.non hy'] at kR
  refine⟨pe,_,rfl,bS.of hpe,rfl,_,_,rfl,_,_,rfl,rfl,(dM.set rfl).set' rfl,_,rfl,_,rfl,d,_,rfl,.inl ⟨bL sl,Sum.inl (i:Int),(rd6.imp (s' _ _) fun⟨o,e⟩=>⟨o,s' _ _ e⟩),rfl,rfl⟩,_,rfl,?_⟩
  rw [xJ]
  by_cases cu:i∈sl.map (·.1)
  ·rw [decide_eq_true cu] at kR kE ⊢
   exact jt ⟨_,rfl,kR rfl _ (az.refl _)⟩
  ·rw [decide_eq_false cu] at kR kE ⊢
   exact ib (kE rfl _ (az.refl _))
 rw [ln] at h8
 have s08:=s06.trans s8
 have al8:=ff (L:=(List.range ws.length).filter fun i=>decide (i∈sl.map (·.1))) (al.mono fun _ _ z=>z.mono (be.same s08)) fun i hi=>List.mem_range.mp (List.mem_filter.mp hi).1
 have ex:∃ i,i < ws.length/\decide (i∈sl.map (·.1))=true:=by
  cases e:(List.range ws.length).filter fun i=>decide (i∈sl.map (·.1)) with
  | nil=>
   rw [e] at sh
   have z:dA (gW ws [])=0:=rfl
   have n0:(0:Rat)≤((bi (gW ws []) fr:Nat):Rat):=by
    have:=Rat.natCast_le_natCast.mpr (Nat.zero_le (bi (gW ws []) fr))
    exact this
   have:=Rat.mul_nonneg rn n0
   grind
  | cons j l=>
   have m:=List.mem_filter.mp (show j∈(List.range ws.length).filter fun i=>decide (i∈sl.map (·.1)) by rw [e];exact List.mem_cons_self)
   exact⟨j,List.mem_range.mp m.1,m.2⟩
 obtain⟨j,hj,hSj⟩:=ex
 refine⟨_,?_,fun i=>decide (i∈sl.map (·.1)),D,_,_,_,_,rfl,s08,aF.of h8,al8,⟨j,hj,hSj⟩,rfl⟩
 rw [epq]
 exact zI (kA (S:=fun i=>decide (i∈sl.map (·.1))) f24 pos (List.mem_range.mpr hj) hSj) sh
theorem zf (T:eK K mg t):bh P w K mg base dC 6 t.a_Q34 t.d_Q34 ["works", "hands"] (qQ K):=by
 refine T.F_Q34.ok cN (fun vs H Q E h=>?_) (fun cdv A outer s H vs Q E hr h=>?_)
 ·obtain⟨_,_,_,rfl,_⟩:=h;rfl
 obtain⟨v,h₀,ws,rfl,wv,g,h1,h20,k⟩:=h
 refine df.ok (ac (bT 2 cN.nd gt)
   (ac (bT 3 cN.nd (cO (jd rfl) (by rfl) T.z_list boot_list (aa (oF rfl T.z_range (aa (aD aC (by rfl) T.z_len boot_len (aa (qv 0) af ad)) af aG)) af aG)))
   (ac (bT 4 cN.nd (aA kB (bP (aa (qv 1) af ad)) (ir (v:=.int (24)) rfl T.m_TURNS ⟨_,rfl⟩)))
   (ac (cV PassesOwn.never (aN gY (aD aC (by rfl) T.z_len boot_len (aa (qv 3) af ad)) ah (aV _))
   (ac (bT 5 cN.nd (aU (N':=["number", "works"]) (src:=[none,some 0]) rfl (by exact (aX (qv 3))) (fun _ _ _ _ _=>(by exact (by exact aB (i:=0) (by show List.Nodup (["number", "works"]:List Str);decide +kernel) (by exact rfl) (by first | exact Or.inl rfl | exact Or.inr rfl)))) (fun _ _ _ _ _=>bJ) (fun _ _ _ _ _=>(by exact (by exact (bu (cm (K:=K) (by exact rfl)) (by exact (qv 1)) (by exact (qv 0)) (by exact fun _ _=>rfl))))) (by exact⟨rfl,rfl,rfl,rfl,trivial⟩) rfl (by decide +kernel) rfl (by decide +kernel) (by exact aQ rfl ⟨rfl,trivial⟩)))
   (ac (bT 6 cN.nd (dr (BG T) hr T.m_Q4 T.F_Q4.kp T.b_Q4 (aa (qv 5) (aa (qv 4) af ad) ad)))
   (ac (bT 7 cN.nd (bW aH (qv 6) ah))
   (ac (bT 8 cN.nd (bW aH (qv 6) ah))
   (ac (gj (i:=9) (N':=["place", "pouring"]) (src:=[none,some 8]) cN.nd rfl (by first | exact Or.inl rfl | exact Or.inr rfl) rfl (by exact (bx rfl T.z_range (aa (aD aC (by rfl) T.z_len boot_len (aa (qv 5) af ad)) af aG))) (fun _ _ _ _ _=>(by exact (by exact aB (i:=0) (by show List.Nodup (["place", "pouring"]:List Str);decide +kernel) (by exact rfl) (by first | exact Or.inl rfl | exact Or.inr rfl)))) (fun _ _ _ _ _=>(cD (yy (ku (by exact (cR (by exact (qv 1)) T.cl_Pouring T.M_Pouring_has_way_on (BI T) (by exact hr.mono (by decide)) T.b_Q1 (by exact .nil) (by exact c6) (aa (by exact (qv 0)) af ad))))))) (fun _ _ _ _ _=>(by exact (by exact (qv 0)))) (by exact⟨rfl,rfl,rfl,rfl,trivial⟩) rfl (by decide +kernel) rfl (by decide +kernel) (by exact aQ rfl ⟨rfl,trivial⟩))
   (ac (cf PassesOwn.never rfl (aX (qv 9)) (aB (i:=10) cN.nd rfl (by first | exact Or.inl rfl | exact Or.inr rfl))
   (ak (gk (dY hr) (qv 2) (bW aL (qv 3) (qv 10)) (cF (aa (qv 7) (aa (cR (qv 8) T.cl_Pouring T.M_Pouring_amounts (BF T) (hr.mono (by decide)) T.b_Q7 .nil c6 (aa (qv 10) af ad)) af aG) ad)) rfl)))
   (ac (bT 11 cN.nd (dr (tL T) hr T.m_Q16 T.F_Q16.kp T.b_Q16 (aa (aU (N':=["place", "staying"]) (src:=[none,some 5]) rfl (by exact (aX (qv 9))) (fun _ _ _ _ _=>(by exact (by exact aB (i:=0) (by show List.Nodup (["place", "staying"]:List Str);decide +kernel) (by exact rfl) (by first | exact Or.inl rfl | exact Or.inr rfl)))) (fun _ _ _ _ _=>bJ) (fun _ _ _ _ _=>(by exact (by exact (bu (bV (K:=K) (by exact rfl)) (by exact (qv 1)) (by exact (qv 0)) (by exact fun _ _=>rfl))))) (by exact⟨rfl,rfl,rfl,rfl,trivial⟩) rfl (by decide +kernel) rfl (by decide +kernel) (by exact aQ rfl ⟨rfl,trivial⟩)) (aa (qv 4) af ad) c8)))
   (ac (bT 4 cN.nd (aU (N':=["turn", "free", "busy"]) (src:=[none,some 4,some 11]) rfl (by exact (bx rfl T.z_range (aa (ir (v:=.int (24)) rfl T.m_TURNS ⟨_,rfl⟩) af ad))) (fun _ _ _ _ _=>(by exact (by exact aB (i:=0) (by show List.Nodup (["turn", "free", "busy"]:List Str);decide +kernel) (by exact rfl) (by first | exact Or.inl rfl | exact Or.inr rfl)))) (fun _ _ _ _ _=>bJ) (fun _ _ _ _ _=>(by exact (by exact (aA cG (by exact (bu (bV (K:=K) (by exact rfl)) (by exact (qv 1)) (by exact (qv 0)) (by exact fun _ _=>rfl))) (by exact (bu (bV (K:=K) (by exact rfl)) (by exact (qv 2)) (by exact (qv 0)) (by exact fun _ _=>rfl))))))) (by exact⟨rfl,rfl,rfl,rfl,⟨rfl,rfl,rfl,rfl,trivial⟩⟩) rfl (by decide +kernel) rfl (by decide +kernel) (by exact aQ rfl ⟨rfl,⟨rfl,trivial⟩⟩)))
   (ak (gj (i:=3) (N':=["number", "told"]) (src:=[none,some 2]) cN.nd rfl (by first | exact Or.inl rfl | exact Or.inr rfl) rfl (by exact (aX (qv 3))) (fun _ _ _ _ _=>(by exact (by exact aB (i:=0) (by show List.Nodup (["number", "told"]:List Str);decide +kernel) (by exact rfl) (by first | exact Or.inl rfl | exact Or.inr rfl)))) (fun _ _ _ _ _=>(cD (jI (by exact dY hr) (by exact (qv 0)) (by exact (qv 1)) (by with_unfolding_all rfl)))) (fun _ _ _ _ _=>(by exact (by exact (qv 0)))) (by exact⟨rfl,rfl,rfl,rfl,trivial⟩) rfl (by decide +kernel) rfl (by decide +kernel) (by exact aQ rfl ⟨rfl,trivial⟩))))))))))))
   (ak (aT (aU (N':=["number", "told"]) (src:=[none,some 2]) rfl (by exact (bx rfl T.z_range (aa (aD aC (by rfl) T.z_len boot_len (aa (qv 0) af ad)) af aG))) (fun _ _ _ _ _=>(by exact (by exact aB (i:=0) (by show List.Nodup (["number", "told"]:List Str);decide +kernel) (by exact rfl) (by first | exact Or.inl rfl | exact Or.inr rfl)))) (fun _ _ _ _ _=>bJ) (fun _ _ _ _ _=>(by exact (by exact (gu (by exact dY hr) (by exact (qv 1)) (by exact (qv 0)) (by exact fun _ _=>rfl))))) (by exact⟨rfl,rfl,rfl,rfl,trivial⟩) rfl (by decide +kernel) rfl (by decide +kernel) (by exact aQ rfl ⟨rfl,trivial⟩)))))))) ?_
 extract_lets +lift
 try dsimp -zeta -zetaDelta only [Cx.nox,Cx.wish,bO]
 obtain⟨pw,xs,rfl,hS,al⟩:=id wv
 have hlen:=al.len
 have l6:=g.len
 refine fun d hd=>?_
 have s1:=ai hd (.dK [])
 have e1:ax H d (.dK []) d=some (.dK (cL [])):=ae
 generalize ax H d (.dK [])=H1 at s1 e1 ⊢
 refine⟨_,rfl,pw,_,rfl,.inr (be.same (K:=K) s1 _ _ hS),_,rfl,fun pr hpr=>?_⟩
 rw [hlen]
 have s2:=ai hpr (.rng 0 ws.length)
 refine⟨pr,ws.length,rfl,ae,by omega,fun ln hln=>?_⟩
 have s3:=ai hln (.lst ((B.upTo ws.length).map V.int))
 have n3:ax (ax H1 pr (.rng 0 ws.length)) ln (.lst ((B.upTo ws.length).map V.int)) ln=some (.lst (av (List.range ws.length))):=by rw [ae,lC]
 have e3:=(s2.trans s3) _ _ e1
 have s03:=(s1.trans s2).trans s3
 generalize ax (ax H1 pr (.rng 0 ws.length)) ln (.lst ((B.upTo ws.length).map V.int))=H3 at n3 e3 s03 ⊢
 refine⟨_,rfl,wN,fun l4 hl4=>?_⟩
 have s4:=ai hl4 (.lst [.int (h₀:Nat)])
 refine⟨l4,_,24,rfl,rfl,ae,by decide,fun lf hlf=>?_⟩
 have s5:=ai hlf (.lst (List.replicate 24 (V.int (h₀:Nat))))
 have f5:ax (ax H3 l4 (.lst [.int (h₀:Nat)])) lf (.lst (List.replicate 24 (V.int (h₀:Nat)))) lf=some (.lst (av (List.replicate 24 h₀))):=by rw [ae];unfold av;rw [List.map_replicate]
 have s35:=s4.trans s5
 generalize ax (ax H3 l4 (.lst [.int (h₀:Nat)])) lf (.lst (List.replicate 24 (V.int (h₀:Nat))))=H5 at f5 s35 ⊢
 have T0:TI K H5 (xz K) ws h₀ [] (fun _=>(0,1)) (List.range ws.length) (List.replicate 24 h₀):=TI.first h1 h20 g.gd
 let Iv1:Nat->L2.St->Hp->Prop:=fun m σ H'=>∃ (ns fr:List Nat) (ln lf:Addr) (tl:Tl) (f:Nat->R) (x5 x6 x7 x8 x9 x10 x11:Option V),σ=[some (.ref pw),some (.int (h₀:Nat)),some (.ref d),some (.ref ln),some (.ref lf),x5,x6,x7,x8,x9,x10,x11]/\az H H'/\H' ln=some (.lst (av ns))/\H' lf=some (.lst (av fr))/\H' d=some (.dK (cL tl))/\TI K H' (xz K) ws h₀ tl f ns fr/\m=ns.length
 refine⟨Iv1,⟨_,_,_,ln,lf,[],_,none,none,none,none,none,none,none,rfl,s03.trans s35,s35 _ _ n3,f5,s35 _ _ e3,T0,rfl⟩,?_⟩
 clear T0 f5 s35 n3 e3 s03 s1 s2 s3 s4 s5 hlf hl4 hln hpr e1
 rintro m σ H1 ⟨ns,fr,ln,lf,tl,f,x5,x6,x7,x8,x9,x10,x11,rfl,s1,hn1,hf1,hd1,T1,rfl⟩
 have nln:(av ns).length=ns.length:=List.length_map _
 have nd:=T1.nodup
 have nl6:ns.length≤ws.length:=eC nd fun j hj=>(T1.lt hj).1
 refine⟨_,rfl,ln,_,rfl,.inl (aF.of hn1),_,_,rfl,rfl,_,rfl,?_⟩
 by_cases c0:ns=[]
 ·subst c0
  refine ca (by show ¬ (0:Int) < ((av []).length:Nat);decide) ?_
  refine⟨_,rfl,pw,_,rfl,.inr (be.same (K:=K) s1 _ _ hS),ws.length,(by rw [hlen]),by omega,by omega,fun D hD=>bn (d9 (lo:=0) (n:=((ws.length:Nat):Int).toNat)) (fun _=>true) (fun i=>(cY (cL tl) (Sum.inl (i:Int))).getD V.non) hD (by omega) (fun i x H' hi' s' hx' R E kR kE=>?_) fun H2 s2 h2=>?_⟩
  ·subst hx'
   rw [Int.zero_add]
   obtain⟨vj,mj,_,_⟩:=T1.none i (by omega)
   have ev:=f8 T1.nd mj
   rw [ev] at kR
   refine⟨dM.set rfl,_,rfl,_,rfl,d,vj,rfl,.inl ⟨cL tl,Sum.inl (i:Int),.inl (s' _ _ hd1),rfl,ev.symm⟩,?_⟩
   exact kR rfl _ (az.refl _)
  ·rw [Int.toNat_natCast,iy] at h2
   refine k D _ _ H2 (s1.trans s2) h2 (kY fun i hi=>?_) T1.ok
   obtain⟨vj,mj,pj,_⟩:=T1.none i (List.mem_range.mp hi)
   rw [f8 T1.nd mj]
   exact pj.mono (be.same s2)
 have n0:0 < ns.length:=List.length_pos_iff.mpr c0
 refine cq (by show (0:Int) < ((av ns).length:Nat);omega) ?_
 refine⟨_,fun _ _ z=>z,?_⟩
 refine⟨_,rfl,ln,rfl,⟨_,aF.of hn1⟩,fun ls hls=>bn (c7 (aF.of hn1)) (fun _=>true) (fun i=>xs.getD (ns.getD i 0) V.non) hls (by omega) (fun i y H' hi' s' hy R E kR kE=>?_) fun H2 s2 h2=>?_⟩
 ·obtain⟨j,hj,rfl⟩:=bZ hy
  have jl:=(T1.lt (List.mem_of_getElem? hj)).1
  have ej:=List.getElem?_eq_getElem (show j < xs.length by omega)
  rw [aq 0 hj,aq V.non ej] at kR
  refine⟨dM.set rfl,_,rfl,_,rfl,pw,_,_,_,rfl,rfl,be.same (K:=K) (s1.trans s') _ _ hS,aJ ej,?_⟩
  exact kR rfl _ (az.refl _)
 rw [nln,bg 0 (fun j=>xs.getD j V.non) ns] at h2
 have s02:=s1.trans s2
 have al2:=ff (L:=ns) (al.mono fun _ _ z=>z.mono (be.same s02)) fun i hi=>(T1.lt hi).1
 have gl:(gW ws ns).length=ns.length:=i8
 have gG:∀ w∈gW ws ns,qr w:=fun w hw=>by
  obtain⟨i,hi,rfl⟩:=List.mem_map.mp hw
  exact g.gd _ (eS (T1.lt hi).1)
 have pos2:=T1.pos.tr
 rw [← gl] at pos2
 refine⟨_,rfl,_,rfl,ls,lf,_,gW ws ns,fr,rfl,h2,al2,⟨by omega,gG⟩,by omega,s2 _ _ hf1,T1.f24,T1.f20,pos2,fun q vr p s r H3 s3 hq rv pv tg=>?_⟩
 have F:=tg.fst
 rw [gl] at F
 have F:=F.tr nd
 refine⟨_,rfl,q,_,_,_,rfl,rfl,hq,rfl,?_⟩
 refine⟨_,rfl,q,_,_,_,rfl,rfl,hq,rfl,?_⟩
 have s13:=s2.trans s3
 have h3:=s3 _ _ h2
 have sl3:(ns.map fun j=>xs.getD j V.non).length=ns.length:=List.length_map _
 have ew:=tg.ew
 have swl:s.ws.length=ns.length:=by rw [ew,gl]
 refine⟨_,rfl,ls,_,rfl,.inl (aF.of h3),ns.length,(by rw [sl3]),by omega,by omega,fun lt hlt=>bn (d9 (lo:=0) (n:=((ns.length:Nat):Int).toNat)) (fun i=>uR s.net s.pf i) (fun i=>V.int (i:Nat)) hlt (by omega) (fun i x H' hi' s' hx' R E kR kE=>?_) fun H4 s4 h4=>?_⟩
 ·subst hx'
  rw [Int.zero_add]
  have pv':=pv.same s'
  obtain⟨dx,hi⟩:=pv'.ins
  refine⟨dM.set rfl,_,rfl,p.a,_,_,rfl,hi,rfl,_,rfl,p,s,i,rfl,pv',tg.F,by omega,fun H6 s6=>⟨_,rfl,?_⟩⟩
  cases cu:uR s.net s.pf i with
  | true=>exact jt ⟨_,rfl,kR cu _ s6⟩
  | false=>exact ib (kE cu _ s6)
 rw [Int.toNat_natCast] at h4
 generalize etp:(List.range ns.length).filter (fun i=>uR s.net s.pf i)=tp at h4
 have h4:H4 lt=some (.lst (av tp)):=h4
 have tpm:∀ i∈tp,i < ns.length:=fun i hi=>by rw [← etp] at hi;exact List.mem_range.mp (List.mem_filter.mp hi).1
 have etj:tp.map (fun i=>ns.getD i 0)=ns.filter fun j=>uR s.net s.pf (ns.idxOf j):=by rw [← etp];exact vC nd _
 have egt:gW (gW ws ns) tp=gW ws (ns.filter fun j=>uR s.net s.pf (ns.idxOf j)):=by rw [← etp];exact zX nd _
 have tpl:tp.length≤ns.length:=by rw [← etp];have:=List.length_filter_le (fun i=>uR s.net s.pf i) (List.range ns.length);rw [List.length_range] at this;exact this
 generalize (fun j=>uR s.net s.pf (ns.idxOf j))=U at etj egt F
 have s14:=s13.trans s4
 have hd4:=s14 _ _ hd1
 have hn4:=s14 _ _ hn1
 have hf4:=s14 _ _ hf1
 have pv4:=pv.same s4
 have rv4:=rv.mono (be.same s4)
 have ndt:lt≠d:=fun z=>by rw [z,hd4] at h4;cases h4
 have ntl:(av tp).length=tp.length:=List.length_map _
 let Iv2:Nat->L2.St->Hp->Prop:=fun i σ H'=>∃ (tl':Tl) (y10:Option V),σ=[some (.ref pw),some (.int (h₀:Nat)),some (.ref d),some (.ref ln),some (.ref lf),some (.ref ls),some (.ref q),some vr,some (.ref p.a),some (.ref lt),y10,x11]/\(∀ b o,b≠d->H4 b=some o->H' b=some o)/\H' d=some (.dK (cL (tl++tl')))/\tl'.map (·.1)=(tp.map fun i=>ns.getD i 0).take i/\∀ x∈tl',xz K H' x.2 r
 refine⟨_,rfl,lt,rfl,⟨_,aF.of h4⟩,cJ (K:=K) (a:=lt) (xs:=av tp) Iv2 ⟨[],x10,rfl,fun _ _ _ e=>e,(by rw [List.append_nil];exact hd4),rfl,(fun x hx=>by cases hx)⟩ (fun i σ H' _ ⟨_,_,_,k',_⟩=>aF.of (k' _ _ ndt h4)) ?_ ?_⟩
 ·rintro i x σ H5 hx ⟨tl',y10,rfl,k5,e5,m5,v5⟩
  obtain⟨pl,hpl,rfl⟩:=bZ hx
  have z5:=mw.ex hd4 k5
  have pln:=tpm pl (List.mem_of_getElem? hpl)
  have pv5:=pv4.nod z5
  obtain⟨dx5,hi5⟩:=pv5.ins
  have M2:=tg.M
  refine⟨_,rfl,_,rfl,p.a,_,_,rfl,hi5,rfl,_,rfl,p,s,pl,rfl,pv5,tg.F.ok,by omega,(by rw [ew];exact gG),tg.F.am pl (by omega),tg.A pl (by rw [gl];exact pln),fun t ht=>?_,fun va H6 s6=>?_⟩
  ·have f1:0≤s.pf pl t:=tg.F.fl.lo pl t (show pl < s.ws.length by omega) ht
   have f2:s.pf pl t≤s.M:=tg.F.fl.hi pl t (show pl < s.ws.length by omega) ht
   omega
  refine⟨lu,fun qq hqq=>?_⟩
  have s7:=ai hqq (.tup [vr,va])
  have p7:xz K (ax H6 qq (.tup [vr,va])) (.ref qq) r:=⟨qq,vr,va,rfl,bS.of ae,((rv4.mono z5.tst).mono (be.same s6)).mono (be.same s7)⟩
  have s57:=s6.trans s7
  generalize ax H6 qq (.tup [vr,va])=H7 at s57 p7 ⊢
  have e7:=s57 _ _ e5
  have n7:=s57 _ _ (z5.lst hn4)
  have en:(av ns)[pl]?=some (.int ((ns.getD pl 0:Nat):Int)):=by
   unfold av
   rw [List.getElem?_map,List.getElem?_eq_getElem pln,aq 0 (List.getElem?_eq_getElem pln)]
   rfl
  have ml:=congrArg List.length m5
  rw [List.length_map,List.length_take,List.length_map] at ml
  have il:=(List.getElem?_eq_some_iff.mp hpl).1
  have tll:tl.length≤ws.length:=by
   have:=eC (n:=ws.length) T1.nd fun j hj=>by
    obtain⟨x,hx,rfl⟩:=List.mem_map.mp hj
    exact (T1.vl x hx).2.2
   rw [List.length_map] at this
   exact this
  have ei:(tp.map fun i=>ns.getD i 0)[i]?=some (ns.getD pl 0):=by rw [List.getElem?_map,hpl];rfl
  have nm:ns.getD pl 0∉(tl++tl').map (·.1):=fun m=>by
   rw [List.map_append,m5] at m
   rcases List.mem_append.mp m with z | z
   ·exact (T1.lt (show ns.getD pl 0∈ns by rw [aq 0 (List.getElem?_eq_getElem pln)];exact List.getElem_mem pln)).2 z
   ·obtain⟨j,hj,ej⟩:=List.mem_iff_getElem.mp z
    rw [List.length_take,List.length_map] at hj
    rw [List.getElem_take] at ej
    have ndj:(tp.map fun i=>ns.getD i 0).Nodup:=by rw [etj];exact nd.filter _
    have:=(List.getElem_inj ndj).mp (ej.trans (List.getElem?_eq_some_iff.mp ei).2.symm)
    omega
  refine⟨_,rfl,_,rfl,_,rfl,ln,_,_,_,rfl,rfl,aF.of n7,aJ en,d,_,rfl,jk.k (k:=Sum.inl ((ns.getD pl 0:Nat):Int)) (v:=V.ref qq) e7 (by unfold cL;rw [List.length_map,List.length_append,sizeLine_eq];omega),?_⟩
  rw [Bn nm]
  have z8:=mw.up e7 (cL (tl++tl'++[(ns.getD pl 0,.ref qq)]))
  refine⟨tl'++[(ns.getD pl 0,.ref qq)],_,rfl,fun b o nb e=>by rw [aj nb];exact s57 _ _ (k5 b o nb e),by rw [ae,List.append_assoc],?_,fun x hx=>?_⟩
  ·rw [List.map_append,m5,List.take_add_one,ei]
   rfl
  ·rcases List.mem_append.mp hx with z | z
   ·exact ((v5 x z).mono (be.same s57)).mono z8.tst
   ·rw [List.mem_singleton.mp z]
    exact p7.mono z8.tst
 rintro σ H5 ⟨tl',y10,rfl,k5,e5,m5,v5⟩
 rw [ntl,show tp.length=(tp.map fun i=>ns.getD i 0).length from (List.length_map _).symm,List.take_length,etj] at m5
 have z5:=mw.ex hd4 k5
 have h5:=z5.lst (s4 _ _ h3)
 have t5:=z5.lst h4
 have n5:=z5.lst hn4
 have f5:=z5.lst hf4
 have S05:az H H5:=fun b o e=>k5 b o (ay e hd) (s14 _ _ (s1 _ _ e))
 refine⟨_,rfl,lt,rfl,⟨_,aF.of t5⟩,fun lg hlg=>bn (c7 (aF.of t5)) (fun _=>true) (fun i=>(ns.map fun j=>xs.getD j V.non).getD (tp.getD i 0) V.non) hlg (by omega) (fun i y H' hi' s' hy R E kR kE=>?_) fun H6 s6 h6=>?_⟩
 ·obtain⟨j,hj,rfl⟩:=bZ hy
  have jl:=tpm j (List.mem_of_getElem? hj)
  have ej:=List.getElem?_eq_getElem (show j < (ns.map fun j=>xs.getD j V.non).length by omega)
  rw [aq 0 hj,aq V.non ej] at kR
  refine⟨dM.set rfl,_,rfl,_,rfl,ls,_,_,_,rfl,rfl,aF.of (s' _ _ h5),aJ ej,?_⟩
  exact kR rfl _ (az.refl _)
 rw [ntl,bg 0 (fun j=>(ns.map fun j=>xs.getD j V.non).getD j V.non) tp] at h6
 have al6:=ff (L:=tp) (xs:=ns.map fun j=>xs.getD j V.non) (ws:=gW ws ns) (ff (L:=ns) (al.mono fun _ _ z=>z.mono (be.same (S05.trans s6))) fun i hi=>(T1.lt hi).1) fun i hi=>by rw [gl];exact tpm i hi
 refine⟨_,rfl,lg,lf,_,_,fr,rfl,aF.of h6,al6,by rw [i8];omega,aF.of (s6 _ _ f5),T1.f24,fun lb H7 s7 _ b7=>?_⟩
 rw [egt] at b7
 have s57:=s6.trans s7
 have f7:=s57 _ _ f5
 have f24:=T1.f24
 have bl:(av (bX (gW ws (ns.filter U)) fr)).length=24:=by unfold av bX;rw [List.length_map,List.length_map,List.length_range,f24]
 have fl:(av fr).length=24:=by unfold av;rw [List.length_map,f24]
 refine⟨24,rfl,by decide,by decide,fun lh hlh=>bn (d9 (lo:=0) (n:=24)) (fun _=>true) (fun i=>V.int (((ld fr (gW ws (ns.filter U))).getD i 0:Nat):Int)) hlh (by decide) (fun i x H' hi' s' hx' R E kR kE=>?_) fun H8 s8 h8=>?_⟩
 ·subst hx'
  rw [Int.zero_add]
  have at':∀ (l:List Nat),i < l.length->(av l)[i]?=some (.int ((l.getD i 0:Nat):Int)):=fun l hl=>by
   unfold av
   rw [List.getElem?_map,List.getElem?_eq_getElem hl,aq 0 (List.getElem?_eq_getElem hl)]
   rfl
  rw [← uk f24 (show i < 24 from hi')] at kR
  refine⟨dM.set rfl,_,rfl,_,rfl,lf,_,_,_,rfl,rfl,aF.of (s' _ _ f7),aJ (at' _ (by omega)),_,rfl,_,rfl,lb,_,_,_,rfl,rfl,aF.of (s' _ _ b7),aJ (at' _ (by unfold av at bl;rw [List.length_map] at bl;omega)),_,_,rfl,rfl,?_⟩
  exact kR rfl _ (az.refl _)
 have e8:((List.range 24).filter fun _=>true).map (fun i=>V.int (((ld fr (gW ws (ns.filter U))).getD i 0:Nat):Int))=av (ld fr (gW ws (ns.filter U))):=by
  have e:=bg 0 (fun n:Nat=>V.int (n:Int)) (ld fr (gW ws (ns.filter U)))
  rw [kP] at e
  exact e
 have h8:H8 lh=some (.lst (av (ld fr (gW ws (ns.filter U))))):=by rw [← e8];exact h8
 have s58:=s57.trans s8
 have n8:=s58 _ _ n5
 have d8:=s58 _ _ e5
 refine⟨_,rfl,ln,rfl,⟨_,aF.of n8⟩,fun lz hlz=>bn (c7 (aF.of n8)) (fun i=>!decide (ns.getD i 0∈(tl++tl').map (·.1))) (fun i=>V.int ((ns.getD i 0:Nat):Int)) hlz (by omega) (fun i y H' hi' s' hy R E kR kE=>?_) fun H9 s9 h9=>?_⟩
 ·obtain⟨j,hj,rfl⟩:=bZ hy
  rw [aq 0 hj] at kR kE
  refine⟨dM.set rfl,_,rfl,_,rfl,d,_,rfl,fj.k (k:=Sum.inl (j:Int)) (s' _ _ d8),_,rfl,?_⟩
  rw [AO]
  by_cases cu:j∈(tl++tl').map (·.1)
  ·rw [decide_eq_true cu] at kR kE ⊢
   exact ib (kE rfl _ (az.refl _))
  ·rw [decide_eq_false cu] at kR kE ⊢
   exact jt ⟨_,rfl,kR rfl _ (az.refl _)⟩
 rw [nln,d6 0 (fun j=>!decide (j∈(tl++tl').map (·.1))) (fun j:Nat=>V.int (j:Int)) ns] at h9
 have e9:ns.filter (fun j=>!decide (j∈(tl++tl').map (·.1)))=ns.filter fun j=>!U j:=List.filter_congr fun j hj=>by
  have nt:=(T1.lt hj).2
  rw [List.map_append,m5]
  cases u:U j with
  | true=>rw [decide_eq_true (List.mem_append_right _ (List.mem_filter.mpr ⟨hj,u⟩))]
  | false=>rw [decide_eq_false fun m=>by
    rcases List.mem_append.mp m with z | z
    ·exact nt z
    ·rw [(List.mem_filter.mp z).2] at u;cases u]
 rw [e9] at h9
 have s59:=s58.trans s9
 have T5:=T1.mono (H':=H5) fun v r z=>(z.mono (be.same s14)).mono z5.tst
 have T9:=(T5.next F tg.wf m5 v5 g.gd).mono (H':=H9) fun v r z=>z.mono (be.same s59)
 obtain⟨j,hj,hu⟩:=F.some f24
 refine⟨_,?_,_,_,lz,lh,_,_,_,_,_,_,_,_,_,rfl,S05.trans s59,h9,s9 _ _ h8,s59 _ _ e5,T9,rfl⟩
 exact List.length_filter_lt_length_iff_exists.mpr ⟨j,hj,by rw [hu];decide⟩
theorem zu (T:eK K mg t):bh P w K mg base dC 7 t.a_Q13 t.d_Q13 ["works", "hands"] (iG K):=by
 refine T.F_Q13.ok yd (fun vs H Q E h=>?_) (fun cdv A outer s H vs Q E hr h=>?_)
 ·obtain⟨_,_,_,rfl,_⟩:=h;rfl
 obtain⟨v,h₀,ws,rfl,wv,g,h1,h20,k⟩:=h
 refine df.ok (ak (aT (cO dI (by rfl) T.z_tuple boot_tuple (aa (aU (N':=["pair"]) (src:=[none]) rfl (by exact (aX (dr (zf T) hr T.m_Q34 T.F_Q34.kp T.b_Q34 (aa (qv 0) (aa (qv 1) af ad) ad)))) (fun _ _ _ _ _=>(by exact (by exact aB (i:=0) (by show List.Nodup (["pair"]:List Str);decide +kernel) (by exact rfl) (by first | exact Or.inl rfl | exact Or.inr rfl)))) (fun _ _ _ _ _=>bJ) (fun _ _ _ _ _=>(by exact (by exact (bu (cm (K:=K) (by exact rfl)) (by exact (qv 0)) ah (by exact fun _ _=>rfl))))) (by exact trivial) rfl (by decide +kernel) rfl (by decide +kernel) (by exact aQ rfl trivial)) af c8)))) ?_
 extract_lets +lift
 try dsimp -zeta -zetaDelta only [Cx.nox,Cx.wish,bO]
 refine⟨_,rfl,_,rfl,v,h₀,ws,rfl,wv,g,h1,h20,fun l ys rs H1 s1 e1 al ok=>?_⟩
 have ll:=al.len
 have r6:=ok.1
 have l6:=g.len
 refine⟨l,rfl,⟨_,aF.of e1⟩,fun D hD=>dZ (K:=K) (P:=RV K) (ds:=rs) (f:=fun r:R=>r) (fun _ _ _ _ t p=>p.mono t) hD (aF.of e1) ll (by omega) (fun i y r H' hy hr s' R E kR=>?_) fun H2 zs s2 hD2 al2=>?_⟩
 ·obtain⟨r',hr',p,y0,z0,rfl,hp,ry⟩:=al.at hy
  rw [hr] at hr'
  cases hr'
  have t':=be.same (K:=K) s'
  refine⟨dM.set rfl,_,rfl,p,_,_,_,rfl,rfl,t' _ _ hp,rfl,?_⟩
  exact kR _ _ (az.refl _) (ry.mono t')
 rw [List.map_id'] at al2
 refine⟨D,zs,rfl,.inl ⟨aF.of hD2,fun lt hlt=>?_⟩⟩
 have s3:=ai hlt (.tup zs)
 exact k _ rs _ ((s1.trans s2).trans s3) ⟨lt,zs,rfl,bS.of ae,al2.mono fun _ _ z=>z.mono (be.same s3)⟩ ok
theorem zb (T:eK K mg t):bh P w K mg base dC 8 t.a_Q38 t.d_Q38 ["_law_script"] (kg K):=by
 refine T.F_Q38.ok eh (fun vs H Q E h=>?_) (fun cdv A outer s H vs Q E hr h=>?_)
 ·obtain⟨_,_,rfl,_⟩:=h;rfl
 obtain⟨a₀,ns,rfl,hS,hl,k⟩:=h
 refine df.ok (ac (cf PassesOwn.never rfl (bx rfl T.z_range (aa ah af aK)) (aB (i:=1) eh.nd rfl (by first | exact Or.inl rfl | exact Or.inr rfl))
   (ac (bT 2 eh.nd (bP (aa (dr (zo T) hr T.m_Q19 T.F_Q19.kp T.b_Q19 (aa (aA cj (dr (zt T) hr T.m_Q14 T.F_Q14.kp T.b_Q14 (aa (qv 0) (aa (qv 1) af ad) ad)) (aA gJ ah (qv 1))) (aa ah af aK) aP)) (aa ah af aK) aG)))
   (ac (bT 3 eh.nd (dr (zk T) hr T.m_Q22 T.F_Q22.kp T.b_Q22 (aa (qv 2) (aa (aA cG ah (aA eA (qv 1) ah)) (aa ah af aK) aP) ad)))
   (ac (iQ (cE (aN gZ (dr (dF T) hr T.m_Q24 T.F_Q24.kp T.b_Q24 (aa (qv 2) (aa ah af aK) ad)) ah (aV _)) (ak (bT 3 eh.nd (aA tD (eW u4 (qv 3) gs (gm ah)) ah))) bK))
   (ac (bT 4 eh.nd (bW aL (bP (aa ah (aa ah (aa ah (aa ah (aa ah (aa ah af aK) aK) aK) aK) aK) aK)) (dr (dF T) hr T.m_Q24 T.F_Q24.kp T.b_Q24 (aa (qv 2) (aa ah af aK) ad))))
   (ac (bT 5 eh.nd (dr (zq T) hr T.m_Q17 T.F_Q17.kp T.b_Q17 (aa (qv 3) (aa (qv 4) af ad) ad)))
   (ac (bT 6 eh.nd (aD (fA hr) (by rfl) T.z_repr boot_repr (aa (qv 3) af ad)))
   (ak (cf PassesOwn.never rfl (bx rfl T.z_range (aa ah af aK)) (aB (i:=7) eh.nd rfl (by first | exact Or.inl rfl | exact Or.inr rfl))
   (ak (cE (se (Bk (aN tE (aD (fA hr) (by rfl) T.z_repr boot_repr (aa (dr (zu T) hr T.m_Q13 T.F_Q13.kp T.b_Q13 (aa (qv 3) (aa (qv 4) af ad) ad)) af aG)) (aD (fA hr) (by rfl) T.z_repr boot_repr (aa (qv 5) af ad)) (aV _)) (yx (aN tE (aD (fA hr) (by rfl) T.z_repr boot_repr (aa (qv 3) af ad)) (qv 6) (aV _))))) (ak (aT oG)) bK)))))))))))
   (ak (aT oG))) ?_
 extract_lets +lift
 try dsimp -zeta -zetaDelta only [Cx.nox,Cx.wish,bO]
 let Iv1:Nat->L2.St->Hp->Prop:=fun i σ H'=>∃ (x1 x2 x3 x4 x5 x6 x7:Option V),σ=[some (.ref a₀),x1,x2,x3,x4,x5,x6,x7]/\az H H'
 refine⟨3,rfl,by decide,by decide,cA (lo:=0) (n:=3) Iv1 ⟨none,none,none,none,none,none,none,rfl,az.refl _⟩ ?_ ?_⟩
 ·rintro i σ HA hi ⟨x1,x2,x3,x4,x5,x6,x7,rfl,sA⟩
  rw [Int.zero_add]
  refine⟨_,rfl,_,rfl,a₀,ns,i,rfl,sA.seq hS,fun z=>?_⟩
  refine⟨_,rfl,_,_,rfl,rfl,.inl ⟨by omega,by omega⟩,_,_,rfl,rfl,_,60,rfl,by decide,by decide,fun l nz HB sB hl0 hlB hln=>?_⟩
  have s0B:=sA.trans sB
  refine⟨lu,fun t₁ ht=>?_⟩
  have n1:l≠t₁:=fun z=>by subst z;rw [hlB] at ht;cases ht
  have sC:=ai ht (.lst [.ref l,.int 0])
  have T1:cM (ax HB t₁ (.lst [.ref l,.int 0])) t₁ l:=⟨nz,0,ae,sC _ _ hlB,n1,by omega,by omega⟩
  have h0t:H t₁=none:=jL s0B ht
  have s0C:=s0B.trans sC
  generalize ax HB t₁ (.lst [.ref l,.int 0])=HC at T1 s0C ⊢
  have sm:∀ {H1 H2:Hp},az H H1->mr [t₁] H1 H2->az H H2:=fun a b x o e=>b x o (fun z=>by rw [List.mem_singleton.mp z,h0t] at e;cases e) (a x o e)
  refine⟨_,rfl,_,rfl,_,_,rfl,rfl,(by show (0:Int) < 2;decide),_,_,rfl,rfl,t₁,l,_,8,rfl,T1,by omega,by omega,by decide,by decide,fun v ws HD zD T2 wv wl wg=>?_⟩
  have s0D:=sm s0C zD
  have wo:qw ws:=⟨by omega,wg⟩
  refine⟨fun σ H'=>∃ (v:V) (ws:List Wk),σ=[some (.ref a₀),some (.int (i:Nat)),some (.ref t₁),some v,x4,x5,x6,x7]/\az H H'/\ii K H' v ws/\qw ws/\cM H' t₁ l,?_,?_⟩
  ·refine⟨_,rfl,t₁,l,8,rfl,T2,by omega,by omega,fun r xE aE bE T3=>?_⟩
   have zE:=mr.tp (H:=HD) (t:=t₁) (.lst xE)
   have s0E:=sm s0D zE
   obtain⟨ys,et⟩:=T2.lst
   have wvE:=wv.mono (be.up (K:=K) et xE)
   generalize ax HD t₁ (.lst xE)=HE at T3 s0E wvE ⊢
   refine⟨rfl,_,rfl,?_⟩
   by_cases c0:r=0
   rotate_left
   ·refine ca (fun z=>by injection z with z;exact c0 z) ?_
    exact⟨v,ws,rfl,s0E,wvE,wo,T3⟩
   refine cq (by rw [c0]) ?_
   obtain⟨p2,xs2,rfl,hS2,al2⟩:=wvE
   have l2:=al2.len
   refine⟨_,rfl,_,rfl,p2,_,rfl,hS2,fun q HG sG sq=>?_⟩
   rw [show eP xs2 none (some 1)=xs2.take 1 from wz (n:=1)] at sq
   have s0G:=s0E.trans sG
   have al3:=cQ.tk 1 (al2.mono (P':=jn K HG) fun _ _ z=>z.mono (be.same sG))
   have l3:(xs2.take 1).length≤1:=by rw [List.length_take];omega
   generalize exs:xs2.take 1=xs3 at sq al3 l3
   generalize ews:ws.take 1=ws3 at al3
   have g3:∀ w∈ws3,qr w:=fun w hw=>by rw [← ews] at hw;exact wg w (List.mem_of_mem_take hw)
   have l4:=al3.len
   refine⟨q,xs3,5,rfl,rfl,sq,by decide,by decide,by omega,fun e0=>?_,fun _ lt hlt=>?_⟩
   ·subst e0
    cases al3
    exact⟨_,[],rfl,s0G,⟨q,[],rfl,sq,.nil⟩,⟨by decide,g3⟩,T3.same sG⟩
   ·have sH:=ai hlt (.tup (List.replicate 5 xs3).flatten)
    have al5:=al3.mono (P':=jn K (ax HG lt (.tup (List.replicate 5 xs3).flatten))) fun _ _ z=>z.mono (be.same sH)
    have er:(List.replicate 5 xs3).flatten=xs3++(xs3++(xs3++(xs3++xs3))):=by simp [List.replicate_succ]
    refine⟨_,ws3++(ws3++(ws3++(ws3++ws3))),rfl,s0G.trans sH,⟨lt,_,rfl,bS.of ae,?_⟩,⟨?_,fun w hw=>?_⟩,(T3.same sG).same sH⟩
    ·rw [er]
     rw [er] at al5
     exact cQ.app al5 (cQ.app al5 (cQ.app al5 (cQ.app al5 al5)))
    ·simp only [List.length_append];omega
    ·simp only [List.mem_append] at hw
     rcases hw with z | z | z | z | z <;> exact g3 w z
  rintro σ HE ⟨v,ws,rfl,s0E,wv,wo,T3⟩
  refine⟨DF,fun pg hpg=>?_⟩
  have sF:=ai hpg (.lst [.int 1,.int 2,.int 2,.int 3,.int 4,.int 9])
  have eF:ax HE pg (.lst [.int 1,.int 2,.int 2,.int 3,.int 4,.int 9]) pg=some (.lst [.int 1,.int 2,.int 2,.int 3,.int 4,.int 9]):=ae
  have T4:=T3.same sF
  have wvF:=wv.mono (be.same sF)
  have s0F:=s0E.trans sF
  generalize ax HE pg (.lst [.int 1,.int 2,.int 2,.int 3,.int 4,.int 9])=HF at sF eF T4 wvF s0F ⊢
  refine⟨_,rfl,t₁,l,6,rfl,T4,by omega,by omega,fun r4 xG a4 b4 T5=>?_⟩
  have zG:=mr.tp (H:=HF) (t:=t₁) (.lst xG)
  have s0G:=sm s0F zG
  obtain⟨ys,et⟩:=T4.lst
  have wvG:=wvF.mono (be.up (K:=K) et xG)
  have ng:pg≠t₁:=fun z=>by rw [z] at hpg;obtain⟨ys',et'⟩:=T3.lst;rw [hpg] at et';cases et'
  have eG:ax HF t₁ (.lst xG) pg=some (.lst [.int 1,.int 2,.int 2,.int 3,.int 4,.int 9]):=by rw [aj ng];exact eF
  generalize ax HF t₁ (.lst xG)=HG at s0G wvG eG ⊢
  obtain⟨h,hg,h1,h9⟩:∃ h:Nat,mC [V.int 1,.int 2,.int 2,.int 3,.int 4,.int 9] r4=some (.int (h:Nat))/\1≤h/\h≤20:=by
   rcases (show r4=0∨r4=1∨r4=2∨r4=3∨r4=4∨r4=5 by omega) with rfl | rfl | rfl | rfl | rfl | rfl
   ·exact⟨1,rfl,by decide,by decide⟩
   ·exact⟨2,rfl,by decide,by decide⟩
   ·exact⟨2,rfl,by decide,by decide⟩
   ·exact⟨3,rfl,by decide,by decide⟩
   ·exact⟨4,rfl,by decide,by decide⟩
   ·exact⟨9,rfl,by decide,by decide⟩
  refine⟨pg,_,_,_,rfl,rfl,aF.of eG,hg,?_⟩
  refine⟨_,rfl,_,rfl,v,h,ws,rfl,wvG,wo,h1,h9,fun u rs HH sH ru ok=>?_⟩
  have wvH:=wvG.mono (be.same sH)
  refine⟨_,rfl,v,_,rfl,wvH.deep,wX wo,?_⟩
  let Iv2:Nat->L2.St->Hp->Prop:=fun j σ H'=>∃ (y7:Option V),σ=[some (.ref a₀),some (.int (i:Nat)),some (.ref t₁),some v,some (.int (h:Nat)),some u,some (.str (Ac ws).shown),y7]/\az HH H'
  refine⟨2,rfl,by decide,by decide,cA (lo:=0) (n:=2) Iv2 ⟨x7,rfl,az.refl _⟩ ?_ ?_⟩
  ·rintro j σ HI hj ⟨y7,rfl,sI⟩
   have tI:=be.same (K:=K) sI
   refine⟨_,rfl,_,rfl,v,h,ws,rfl,wvH.mono tI,wo,h1,h9,fun u' rs' HJ sJ ru' ok'=>?_⟩
   have es:=vb ok' ok
   subst es
   have tJ:=be.same (K:=K) sJ
   refine⟨u',_,rfl,ru'.deep,wY wo ok,_,rfl,u,_,rfl,((ru.mono tI).mono tJ).deep,wY wo ok,rfl,_,rfl,tZ rfl ?_⟩
   refine⟨_,rfl,v,_,rfl,((wvH.mono tI).mono tJ).deep,wX wo,_,rfl,rfl,_,rfl,tZ rfl ?_⟩
   exact⟨_,rfl,sI.trans sJ⟩
  ·rintro σ HI ⟨y7,rfl,sI⟩
   exact⟨_,_,_,_,_,_,_,rfl,(s0G.trans sH).trans sI⟩
 ·rintro σ HA ⟨x1,x2,x3,x4,x5,x6,x7,rfl,sA⟩
  exact k _
end
set_option autoImplicit true in
set_option relaxedAutoImplicit true in
open PySem.W in
theorem all_mk {l:OpenLaw} {w:World} {K:Frag} {h:Heap} {mg:Str->Option Value} {fa:Addr} (X:K.In h) (G:h.Ns mainGlobals mg) (hfa:mg "law" = some (.ref fa))
  {c_Pouring:Addr} (p_Pouring:nsIn K mainGlobals "Pouring" = some (some (.ref c_Pouring))) (x1_Pouring:plainGet K c_Pouring Str.empty=true) (x2_Pouring:hasDictIn K c_Pouring=true) (x3_Pouring:plainOver K c_Pouring=true) (x4_Pouring:findIn K (.ref c_Pouring) "__setattr__" = some (some (.builtin "object.__setattr__"))) (x5_Pouring:makesIn K c_Pouring=true) (x6_Pouring:keepIn K (.ref c_Pouring)=true)
  (na_Pouring_inside:findIn K (.ref c_Pouring) "inside" = some none) (na_Pouring_most:findIn K (.ref c_Pouring) "most" = some none) (na_Pouring_whole:findIn K (.ref c_Pouring) "whole" = some none) (na_Pouring_rest:findIn K (.ref c_Pouring) "rest" = some none) (na_Pouring_room:findIn K (.ref c_Pouring) "room" = some none) (na_Pouring_poured:findIn K (.ref c_Pouring) "poured" = some none)
  {f_Q3:Addr} {d_Q3:FuncData} (h_greatest_divisor:fE K "greatest_divisor" yk f_Q3 d_Q3)
  {f_Q31:Addr} {d_Q31:FuncData} (h_ratio:fE K "ratio" rj f_Q31 d_Q31)
  {f_Q35:Addr} {d_Q35:FuncData} (h_plus:fE K "plus" rc f_Q35 d_Q35)
  {f_Q32:Addr} {d_Q32:FuncData} (h_times:fE K "times" rh f_Q32 d_Q32)
  {f_Q36:Addr} {d_Q36:FuncData} (h_over:fE K "over" qZ f_Q36 d_Q36)
  {f_Q33:Addr} {d_Q33:FuncData} (h_total:fE K "total" rg f_Q33 d_Q33)
  {f_Q12:Addr} {d_Q12:FuncData} (h_whole_parts:fE K "whole_parts" rT f_Q12 d_Q12)
  {f_Q18:Addr} {d_Q18:FuncData} (h_in_window:fE K "in_window" rN f_Q18 d_Q18)
  {f_Q16:Addr} {d_Q16:FuncData} (h_busy_hands:fE K "busy_hands" rP f_Q16 d_Q16)
  {f_Q37:Addr} {d_Q37:FuncData} (h_pace:fE K "pace" qY f_Q37 d_Q37)
  {f_Q4:Addr} {d_Q4:FuncData} (h_tightest_pouring:fE K "tightest_pouring" yj f_Q4 d_Q4)
  {f_Q34:Addr} {d_Q34:FuncData} (h_paced:fE K "paced" re f_Q34 d_Q34)
  {f_Q13:Addr} {d_Q13:FuncData} (h_work_speeds:fE K "work_speeds" rS f_Q13 d_Q13)
  {f_Q14:Addr} {d_Q14:FuncData} (h_law_cell_at:fE K "_law_cell_at" rR f_Q14 d_Q14)
  {f_Q19:Addr} {d_Q19:FuncData} (h_law_draws:fE K "_law_draws" rM f_Q19 d_Q19)
  {f_Q24:Addr} {d_Q24:FuncData} (h_law_take:fE K "_law_take" rH f_Q24 d_Q24)
  {f_Q25:Addr} {d_Q25:FuncData} (h_law_made:fE K "_law_made" rD f_Q25 d_Q25)
  {f_Q26:Addr} {d_Q26:FuncData} (h_law_plus:fE K "_law_plus" rC f_Q26 d_Q26)
  {f_Q20:Addr} {d_Q20:FuncData} (h_law_times:fE K "_law_times" rL f_Q20 d_Q20)
  {f_Q30:Addr} {d_Q30:FuncData} (h_law_by:fE K "_law_by" rp f_Q30 d_Q30)
  {f_Q21:Addr} {d_Q21:FuncData} (h_law_total:fE K "_law_total" rK f_Q21 d_Q21)
  {f_Q22:Addr} {d_Q22:FuncData} (h_law_works:fE K "_law_works" rJ f_Q22 d_Q22)
  {f_Q27:Addr} {d_Q27:FuncData} (h_law_busy:fE K "_law_busy" rA f_Q27 d_Q27)
  {f_Q28:Addr} {d_Q28:FuncData} (h_law_sets:fE K "_law_sets" rq f_Q28 d_Q28)
  {f_Q15:Addr} {d_Q15:FuncData} (h_law_fastest:fE K "_law_fastest" rQ f_Q15 d_Q15)
  {f_Q17:Addr} {d_Q17:FuncData} (h_law_speeds:fE K "_law_speeds" rO f_Q17 d_Q17)
  {f_Q38:Addr} {d_Q38:FuncData} (h_law:fE K "law" qX f_Q38 d_Q38)
  {f_Q9:Addr} {d_Q9:FuncData} (h_Pouring_init:jx K c_Pouring "__init__" "Pouring.__init__" ye f_Q9 d_Q9)
  {f_Q8:Addr} {d_Q8:FuncData} (h_Pouring_beside:jx K c_Pouring "beside" "Pouring.beside" yf f_Q8 d_Q8)
  {f_Q6:Addr} {d_Q6:FuncData} (h_Pouring_reached:jx K c_Pouring "reached" "Pouring.reached" yh f_Q6 d_Q6)
  {f_Q5:Addr} {d_Q5:FuncData} (h_Pouring_turns_of:jx K c_Pouring "turns_of" "Pouring.turns_of" yi f_Q5 d_Q5)
  {f_Q1:Addr} {d_Q1:FuncData} (h_Pouring_has_way_on:jx K c_Pouring "has_way_on" "Pouring.has_way_on" yn f_Q1 d_Q1)
  {f_Q2:Addr} {d_Q2:FuncData} (h_Pouring_pour_along:jx K c_Pouring "pour_along" "Pouring.pour_along" ym f_Q2 d_Q2)
  {f_Q0:Addr} {d_Q0:FuncData} (h_Pouring_most_between:jx K c_Pouring "most_between" "Pouring.most_between" yo f_Q0 d_Q0)
  {f_Q10:Addr} {d_Q10:FuncData} (h_Pouring_move:jx K c_Pouring "move" "Pouring.move" rW f_Q10 d_Q10)
  {f_Q11:Addr} {d_Q11:FuncData} (h_Pouring_pour:jx K c_Pouring "pour" "Pouring.pour" rV f_Q11 d_Q11)
  {f_Q7:Addr} {d_Q7:FuncData} (h_Pouring_amounts:jx K c_Pouring "amounts" "Pouring.amounts" yg f_Q7 d_Q7)
  {f_NOUGHT:Addr} {od_NOUGHT:Option Addr} {sl_NOUGHT:Array (Option Value)} {tkNOUGHT0 tkNOUGHT1:Tok} {n_NOUGHT:Nat} (p_NOUGHT:nsIn K mainGlobals "NOUGHT" = some (some (.ref f_NOUGHT))) (l_NOUGHT:K.lookup f_NOUGHT=some ⟨.type "tuple", od_NOUGHT,.seq #[.int (0) tkNOUGHT0,.int (1) tkNOUGHT1] n_NOUGHT,sl_NOUGHT⟩)
  {tkTURNS:Tok} (p_TURNS:nsIn K mainGlobals "TURNS" = some (some (.int (24) tkTURNS)))
  {c_Q23:Addr} (p_Q23:nsIn K mainGlobals "PaceError" = some (some (.ref c_Q23)))
  {c_Q29:Addr} (p_Q29:nsIn K mainGlobals "NoRatio" = some (some (.ref c_Q29)))
  (z_abs:nsIn K mainGlobals "abs" = some none)
  (z_any:nsIn K mainGlobals "any" = some none)
  (z_enumerate:nsIn K mainGlobals "enumerate" = some none)
  (z_len:nsIn K mainGlobals "len" = some none)
  (z_list:nsIn K mainGlobals "list" = some none)
  (z_min:nsIn K mainGlobals "min" = some none)
  (z_range:nsIn K mainGlobals "range" = some none)
  (z_repr:nsIn K mainGlobals "repr" = some none)
  (z_set:nsIn K mainGlobals "set" = some none)
  (z_sorted:nsIn K mainGlobals "sorted" = some none)
  (z_sum:nsIn K mainGlobals "sum" = some none)
  (z_tuple:nsIn K mainGlobals "tuple" = some none)
  : ∃ fd:FuncData,(∀ (s:Shared) (v:Value),BindsTo s fd ⟨[v],[]⟩ [("_law_script", v)])/\∀ base:Heap,K.In base->base.Ns mainGlobals mg->bh l.prog w K mg base dC 8 fa fd ["_law_script"] (kg K):=by
 have e:=hfa.symm.trans (mg_of X G h_law.p)
 cases e
 obtain⟨_,_,_,_,_,_,_,_,_,rfl,_,_⟩:=h_law.F.ex
 have T:eK K mg ⟨f_Q3,_,f_Q31,_,f_Q35,_,f_Q32,_,f_Q36,_,f_Q33,_,f_Q12,_,f_Q18,_,f_Q16,_,f_Q37,_,f_Q4,_,f_Q34,_,f_Q13,_,f_Q14,_,f_Q19,_,f_Q24,_,f_Q25,_,f_Q26,_,f_Q20,_,f_Q30,_,f_Q21,_,f_Q22,_,f_Q27,_,f_Q28,_,f_Q15,_,f_Q17,_,fa,_,f_Q9,_,f_Q8,_,f_Q6,_,f_Q5,_,f_Q1,_,f_Q2,_,f_Q0,_,f_Q10,_,f_Q11,_,f_Q7,_,c_Pouring,f_NOUGHT,tkTURNS,c_Q23,c_Q29⟩:={
  F_Q3:=h_greatest_divisor.F,b_Q3:=h_greatest_divisor.b2,m_Q3:=mg_of X G h_greatest_divisor.p,
  F_Q31:=h_ratio.F,b_Q31:=h_ratio.b2,m_Q31:=mg_of X G h_ratio.p,
  F_Q35:=h_plus.F,b_Q35:=h_plus.b2,m_Q35:=mg_of X G h_plus.p,
  F_Q32:=h_times.F,b_Q32:=h_times.b2,m_Q32:=mg_of X G h_times.p,
  F_Q36:=h_over.F,b_Q36:=h_over.b2,m_Q36:=mg_of X G h_over.p,
  F_Q33:=h_total.F,b_Q33:=h_total.b1,m_Q33:=mg_of X G h_total.p,
  F_Q12:=h_whole_parts.F,b_Q12:=h_whole_parts.b1,m_Q12:=mg_of X G h_whole_parts.p,
  F_Q18:=h_in_window.F,b_Q18:=h_in_window.b2,m_Q18:=mg_of X G h_in_window.p,
  F_Q16:=h_busy_hands.F,b_Q16:=h_busy_hands.b2,m_Q16:=mg_of X G h_busy_hands.p,
  F_Q37:=h_pace.F,b_Q37:=h_pace.b2,m_Q37:=mg_of X G h_pace.p,
  F_Q4:=h_tightest_pouring.F,b_Q4:=h_tightest_pouring.b2,m_Q4:=mg_of X G h_tightest_pouring.p,
  F_Q34:=h_paced.F,b_Q34:=h_paced.b2,m_Q34:=mg_of X G h_paced.p,
  F_Q13:=h_work_speeds.F,b_Q13:=h_work_speeds.b2,m_Q13:=mg_of X G h_work_speeds.p,
  F_Q14:=h_law_cell_at.F,b_Q14:=h_law_cell_at.b2,m_Q14:=mg_of X G h_law_cell_at.p,
  F_Q19:=h_law_draws.F,b_Q19:=h_law_draws.b2,m_Q19:=mg_of X G h_law_draws.p,
  F_Q24:=h_law_take.F,b_Q24:=h_law_take.b2,m_Q24:=mg_of X G h_law_take.p,
  F_Q25:=h_law_made.F,b_Q25:=h_law_made.b2,m_Q25:=mg_of X G h_law_made.p,
  F_Q26:=h_law_plus.F,b_Q26:=h_law_plus.b2,m_Q26:=mg_of X G h_law_plus.p,
  F_Q20:=h_law_times.F,b_Q20:=h_law_times.b2,m_Q20:=mg_of X G h_law_times.p,
  F_Q30:=h_law_by.F,b_Q30:=h_law_by.b2,m_Q30:=mg_of X G h_law_by.p,
  F_Q21:=h_law_total.F,b_Q21:=h_law_total.b1,m_Q21:=mg_of X G h_law_total.p,
  F_Q22:=h_law_works.F,b_Q22:=h_law_works.b3,m_Q22:=mg_of X G h_law_works.p,
  F_Q27:=h_law_busy.F,b_Q27:=h_law_busy.b3,m_Q27:=mg_of X G h_law_busy.p,
  F_Q28:=h_law_sets.F,b_Q28:=h_law_sets.b1,m_Q28:=mg_of X G h_law_sets.p,
  F_Q15:=h_law_fastest.F,b_Q15:=h_law_fastest.b3,m_Q15:=mg_of X G h_law_fastest.p,
  F_Q17:=h_law_speeds.F,b_Q17:=h_law_speeds.b2,m_Q17:=mg_of X G h_law_speeds.p,
  F_Q38:=h_law.F,b_Q38:=h_law.b1,m_Q38:=mg_of X G h_law.p,
  F_Q9:=h_Pouring_init.F,b_Q9:=h_Pouring_init.b4,K_Pouring:=⟨x5_Pouring,h_Pouring_init.p,h_Pouring_init.fn,x6_Pouring⟩,
  F_Q8:=h_Pouring_beside.F,b_Q8:=h_Pouring_beside.b2,M_Pouring_beside:=h_Pouring_beside.meth,
  F_Q6:=h_Pouring_reached.F,b_Q6:=h_Pouring_reached.b2,M_Pouring_reached:=h_Pouring_reached.meth,
  F_Q5:=h_Pouring_turns_of.F,b_Q5:=h_Pouring_turns_of.b2,M_Pouring_turns_of:=h_Pouring_turns_of.meth,
  F_Q1:=h_Pouring_has_way_on.F,b_Q1:=h_Pouring_has_way_on.b2,M_Pouring_has_way_on:=h_Pouring_has_way_on.meth,
  F_Q2:=h_Pouring_pour_along.F,b_Q2:=h_Pouring_pour_along.b3,M_Pouring_pour_along:=h_Pouring_pour_along.meth,
  F_Q0:=h_Pouring_most_between.F,b_Q0:=h_Pouring_most_between.b3,M_Pouring_most_between:=h_Pouring_most_between.meth,
  F_Q10:=h_Pouring_move.F,b_Q10:=h_Pouring_move.b4,M_Pouring_move:=h_Pouring_move.meth,
  F_Q11:=h_Pouring_pour.F,b_Q11:=h_Pouring_pour.b1,M_Pouring_pour:=h_Pouring_pour.meth,
  F_Q7:=h_Pouring_amounts.F,b_Q7:=h_Pouring_amounts.b2,M_Pouring_amounts:=h_Pouring_amounts.meth,
  m_Pouring:=mg_of X G p_Pouring,cl_Pouring:=⟨x1_Pouring,x2_Pouring,x3_Pouring,x4_Pouring⟩,n_Pouring_inside:=na_Pouring_inside,n_Pouring_most:=na_Pouring_most,n_Pouring_whole:=na_Pouring_whole,n_Pouring_rest:=na_Pouring_rest,n_Pouring_room:=na_Pouring_room,n_Pouring_poured:=na_Pouring_poured,
  m_NOUGHT:=mg_of X G p_NOUGHT,q_NOUGHT:=fun H=>.inr ⟨_,_,_,l_NOUGHT,rfl,rfl,lu,(.cons ⟨_,rfl⟩ (.cons ⟨_,rfl⟩ .nil))⟩,
  m_TURNS:=mg_of X G p_TURNS,
  m_Q23:=mg_of X G p_Q23,
  m_Q29:=mg_of X G p_Q29,
  z_abs:=mg_none_of X G z_abs,z_any:=mg_none_of X G z_any,z_enumerate:=mg_none_of X G z_enumerate,z_len:=mg_none_of X G z_len,z_list:=mg_none_of X G z_list,z_min:=mg_none_of X G z_min,z_range:=mg_none_of X G z_range,z_repr:=mg_none_of X G z_repr,z_set:=mg_none_of X G z_set,z_sorted:=mg_none_of X G z_sorted,z_sum:=mg_none_of X G z_sum,z_tuple:=mg_none_of X G z_tuple }
 exact⟨_,fun s v=>.of_eq rfl,fun base _ _=>zb T⟩
theorem walk {l:PySem.W.OpenLaw} {q:Program} {loose:List Str} {XP:(Str->Option Value)->Heap->Prop} {YP:World->Heap->Prop} {d:DefRec} {K:Params->PySem.W.Frag} (hn:l.most=some 63) (hdf:d.params.defaults=[])
  (hY:∀ (w:World) (h:Heap),YP w h->(K w.params).In h)
  (F:∀ (w:World) (mg:Str->Option Value) (fa:Addr) (h:Heap),(K w.params).In h->h.Ns mainGlobals mg->mg d.name=some (.ref fa)→
   ∃ fd:FuncData,(∀ (s:Shared) (u:Value),BindsTo s fd ⟨[u],[]⟩ [("_law_script", u)])/\∀ base:Heap,(K w.params).In base->base.Ns mainGlobals mg->bh l.prog w (K w.params) mg base dC 8 fa fd ["_law_script"] (kg (K w.params))) :
  PySem.W.WalkO q loose XP YP l.row.toRowW d [] (fun f vs=>PySem.call f vs):=
 L2.walk_of (n:=63) (k:=8) (x := "_law_script") (CX:=fun _=>dC) (sp:=fun w=>kg (K w.params)) hn (by decide) hdf ⟨rfl,by decide,by decide,rfl⟩ hY F (fun _ _ a ns hl _ hS=>⟨a,ns,rfl,hS,hl,fun _=>rfl⟩) fun _ _ _ _ _ z=>z
end My
open PySem PySem.W PyProof.Rows
set_option maxRecDepth 100000 in
set_option maxHeartbeats 0 in
theorem PySem.Challenge.cw_paceplan_k60_work_speeds_holds : PySem.Challenge.rw_paceplan_k60_work_speeds.Holds := by
 w_on;refine HWtop ?_
 k_fill
 refine My.walk (l:=PySem.Challenge.rw_paceplan_k60_work_speeds) rfl rfl (fun w h Y=>PySem.W.kIn_of Y) ?F
 case F=>
  intro w mg fa h KX G hmg
  refine' My.all_mk KX G hmg ?p_Pouring ?x1_Pouring ?x2_Pouring ?x3_Pouring ?x4_Pouring ?x5_Pouring ?x6_Pouring ?na_Pouring_inside ?na_Pouring_most ?na_Pouring_whole ?na_Pouring_rest ?na_Pouring_room ?na_Pouring_poured ?h_greatest_divisor ?h_ratio ?h_plus ?h_times ?h_over ?h_total ?h_whole_parts ?h_in_window ?h_busy_hands ?h_pace ?h_tightest_pouring ?h_paced ?h_work_speeds ?h_law_cell_at ?h_law_draws ?h_law_take ?h_law_made ?h_law_plus ?h_law_times ?h_law_by ?h_law_total ?h_law_works ?h_law_busy ?h_law_sets ?h_law_fastest ?h_law_speeds ?h_law ?h_Pouring_init ?h_Pouring_beside ?h_Pouring_reached ?h_Pouring_turns_of ?h_Pouring_has_way_on ?h_Pouring_pour_along ?h_Pouring_most_between ?h_Pouring_move ?h_Pouring_pour ?h_Pouring_amounts ?p_NOUGHT ?l_NOUGHT ?p_TURNS ?p_Q23 ?p_Q29 ?z_abs ?z_any ?z_enumerate ?z_len ?z_list ?z_min ?z_range ?z_repr ?z_set ?z_sorted ?z_sum ?z_tuple
  (case p_Pouring=>k_is)
  (case x1_Pouring=>k_is)
  (case x2_Pouring=>k_is)
  (case x3_Pouring=>k_is)
  (case x4_Pouring=>k_is)
  (case x5_Pouring=>k_is)
  (case x6_Pouring=>k_is)
  (case na_Pouring_inside=>k_is)
  (case na_Pouring_most=>k_is)
  (case na_Pouring_whole=>k_is)
  (case na_Pouring_rest=>k_is)
  (case na_Pouring_room=>k_is)
  (case na_Pouring_poured=>k_is)
  (case h_greatest_divisor=>refine' B.isF ?a ?b ?c ?d;(case a=>k_is);(case b=>k_is);(case c=>k_is);(case d=>k_is))
  (case h_ratio=>refine' B.isF ?a ?b ?c ?d;(case a=>k_is);(case b=>k_is);(case c=>k_is);(case d=>k_is))
  (case h_plus=>refine' B.isF ?a ?b ?c ?d;(case a=>k_is);(case b=>k_is);(case c=>k_is);(case d=>k_is))
  (case h_times=>refine' B.isF ?a ?b ?c ?d;(case a=>k_is);(case b=>k_is);(case c=>k_is);(case d=>k_is))
  (case h_over=>refine' B.isF ?a ?b ?c ?d;(case a=>k_is);(case b=>k_is);(case c=>k_is);(case d=>k_is))
  (case h_total=>refine' B.isF ?a ?b ?c ?d;(case a=>k_is);(case b=>k_is);(case c=>k_is);(case d=>k_is))
  (case h_whole_parts=>refine' B.isF ?a ?b ?c ?d;(case a=>k_is);(case b=>k_is);(case c=>k_is);(case d=>k_is))
  (case h_in_window=>refine' B.isF ?a ?b ?c ?d;(case a=>k_is);(case b=>k_is);(case c=>k_is);(case d=>k_is))
  (case h_busy_hands=>refine' B.isF ?a ?b ?c ?d;(case a=>k_is);(case b=>k_is);(case c=>k_is);(case d=>k_is))
  (case h_pace=>refine' B.isF ?a ?b ?c ?d;(case a=>k_is);(case b=>k_is);(case c=>k_is);(case d=>k_is))
  (case h_tightest_pouring=>refine' B.isF ?a ?b ?c ?d;(case a=>k_is);(case b=>k_is);(case c=>k_is);(case d=>k_is))
  (case h_paced=>refine' B.isF ?a ?b ?c ?d;(case a=>k_is);(case b=>k_is);(case c=>k_is);(case d=>k_is))
  (case h_work_speeds=>refine' B.isF ?a ?b ?c ?d;(case a=>k_is);(case b=>k_is);(case c=>k_is);(case d=>k_is))
  (case h_law_cell_at=>refine' B.isF ?a ?b ?c ?d;(case a=>k_is);(case b=>k_is);(case c=>k_is);(case d=>k_is))
  (case h_law_draws=>refine' B.isF ?a ?b ?c ?d;(case a=>k_is);(case b=>k_is);(case c=>k_is);(case d=>k_is))
  (case h_law_take=>refine' B.isF ?a ?b ?c ?d;(case a=>k_is);(case b=>k_is);(case c=>k_is);(case d=>k_is))
  (case h_law_made=>refine' B.isF ?a ?b ?c ?d;(case a=>k_is);(case b=>k_is);(case c=>k_is);(case d=>k_is))
  (case h_law_plus=>refine' B.isF ?a ?b ?c ?d;(case a=>k_is);(case b=>k_is);(case c=>k_is);(case d=>k_is))
  (case h_law_times=>refine' B.isF ?a ?b ?c ?d;(case a=>k_is);(case b=>k_is);(case c=>k_is);(case d=>k_is))
  (case h_law_by=>refine' B.isF ?a ?b ?c ?d;(case a=>k_is);(case b=>k_is);(case c=>k_is);(case d=>k_is))
  (case h_law_total=>refine' B.isF ?a ?b ?c ?d;(case a=>k_is);(case b=>k_is);(case c=>k_is);(case d=>k_is))
  (case h_law_works=>refine' B.isF ?a ?b ?c ?d;(case a=>k_is);(case b=>k_is);(case c=>k_is);(case d=>k_is))
  (case h_law_busy=>refine' B.isF ?a ?b ?c ?d;(case a=>k_is);(case b=>k_is);(case c=>k_is);(case d=>k_is))
  (case h_law_sets=>refine' B.isF ?a ?b ?c ?d;(case a=>k_is);(case b=>k_is);(case c=>k_is);(case d=>k_is))
  (case h_law_fastest=>refine' B.isF ?a ?b ?c ?d;(case a=>k_is);(case b=>k_is);(case c=>k_is);(case d=>k_is))
  (case h_law_speeds=>refine' B.isF ?a ?b ?c ?d;(case a=>k_is);(case b=>k_is);(case c=>k_is);(case d=>k_is))
  (case h_law=>refine' B.isF ?a ?b ?c ?d;(case a=>k_is);(case b=>k_is);(case c=>k_is);(case d=>k_is))
  (case h_Pouring_init=>refine' B.isM ?a ?e ?b ?c ?d;(case a=>k_is);(case e=>k_is);(case b=>k_is);(case c=>k_is);(case d=>k_is))
  (case h_Pouring_beside=>refine' B.isM ?a ?e ?b ?c ?d;(case a=>k_is);(case e=>k_is);(case b=>k_is);(case c=>k_is);(case d=>k_is))
  (case h_Pouring_reached=>refine' B.isM ?a ?e ?b ?c ?d;(case a=>k_is);(case e=>k_is);(case b=>k_is);(case c=>k_is);(case d=>k_is))
  (case h_Pouring_turns_of=>refine' B.isM ?a ?e ?b ?c ?d;(case a=>k_is);(case e=>k_is);(case b=>k_is);(case c=>k_is);(case d=>k_is))
  (case h_Pouring_has_way_on=>refine' B.isM ?a ?e ?b ?c ?d;(case a=>k_is);(case e=>k_is);(case b=>k_is);(case c=>k_is);(case d=>k_is))
  (case h_Pouring_pour_along=>refine' B.isM ?a ?e ?b ?c ?d;(case a=>k_is);(case e=>k_is);(case b=>k_is);(case c=>k_is);(case d=>k_is))
  (case h_Pouring_most_between=>refine' B.isM ?a ?e ?b ?c ?d;(case a=>k_is);(case e=>k_is);(case b=>k_is);(case c=>k_is);(case d=>k_is))
  (case h_Pouring_move=>refine' B.isM ?a ?e ?b ?c ?d;(case a=>k_is);(case e=>k_is);(case b=>k_is);(case c=>k_is);(case d=>k_is))
  (case h_Pouring_pour=>refine' B.isM ?a ?e ?b ?c ?d;(case a=>k_is);(case e=>k_is);(case b=>k_is);(case c=>k_is);(case d=>k_is))
  (case h_Pouring_amounts=>refine' B.isM ?a ?e ?b ?c ?d;(case a=>k_is);(case e=>k_is);(case b=>k_is);(case c=>k_is);(case d=>k_is))
  (case p_NOUGHT=>k_is)
  (case l_NOUGHT=>k_is)
  (case p_TURNS=>k_is)
  (case p_Q23=>k_is)
  (case p_Q29=>k_is)
  (case z_abs=>k_is)
  (case z_any=>k_is)
  (case z_enumerate=>k_is)
  (case z_len=>k_is)
  (case z_list=>k_is)
  (case z_min=>k_is)
  (case z_range=>k_is)
  (case z_repr=>k_is)
  (case z_set=>k_is)
  (case z_sorted=>k_is)
  (case z_sum=>k_is)
  (case z_tuple=>k_is)
