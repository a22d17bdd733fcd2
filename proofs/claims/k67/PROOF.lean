import PyProof.Rows.All
import KE.RegKIsAll
import KE.RegKTryMore
import KE.KItem
import PySem.Challenge.RW_paceplan_k67_whole_a_work_more_lowers_no
set_option Elab.async false
set_option linter.all false
set_option maxRecDepth 100000
theorem Ci {α β γ:Type} {o:Option α} {f:α->β} {g:α->γ} {a:β} {b:γ} (h1:o.map f=some a) (h2:o.map g=some b):o.map (fun s=>(f s,g s))=some (a,b):=by
 cases o with
 | none=>cases h1
 | some x=>cases h1;cases h2;rfl
namespace HW
open PySem
def keep:List Nat:=[1,2,3,4,6,7,8,9,10,12,13,14,15,16,17,18,19,20,21,22,23,24,26,27,28,29,30,31,32,33,35,36,37,38,39,40,41,43,44,45,46,47,49,50,51,53,54,55,56,57,58,59,60,61,62,63]
def V:Program:=PySem.W.view PySem.Challenge.pw_paceplan_k67_whole_a_work_more_lowers_no keep
end HW
section HWs
open PySem PySem.W PyProof.Rows
set_option maxHeartbeats 0 in
theorem HWa:∀ w:World,(openEnds treeTable PySem.Challenge.rw_paceplan_k67_whole_a_work_more_lowers_no.row.prog w 6262).map (fun s=>openSeen HW.V [] (importedModules PySem.Challenge.rw_paceplan_k67_whole_a_work_more_lowers_no.row.prog.main.body) (fun s=>xlAt HW.V [] s && recOk PySem.Challenge.rw_paceplan_k67_whole_a_work_more_lowers_no.row.records s) true s)=some (openGood HW.V []):=by
 intro w
 delta openEnds fencedOpening topFrom
 rw [PySem.W.Fast.te14364793385576792824,PySem.W.Fast.te14082659384304107361,PySem.W.Fast.te10274390034422433532,PySem.W.Fast.te1435165496053646825,PySem.W.Fast.te14289696077712309145,PySem.W.Fast.te4187177175401517315]
 kernel_rfl
local macro_rules
 | `(tactic| o_head $H:term) => `(tactic| (
   refine holds_open (q:=HW.V) (loose:=[]) (N:=6262)
    (Xt:=fun s=>xlAt HW.V [] s && recOk (RowW.records (OpenRow.toRowW (OpenLaw.row PySem.Challenge.rw_paceplan_k67_whole_a_work_more_lowers_no))) s)
    (XP:=XL HW.V []) (Yf:=Hook.obs $H) (Ya:=Hook.val $H) (YP:=Hook.says $H)
    ?hl (Hook.of $H) (Hook.keeps $H)
    (fun s e=>xl_of s (Bool.and_eq_true_iff.mp e).1) XL.keeps
    (by rfl) (by rfl) (by rfl)
    (fun s e=>recFacts_of (Bool.and_eq_true_iff.mp e).2) (by rfl) (by assumption) (by decide +kernel)
    ⟨rfl,rfl,rfl,rfl,rfl,by decide +kernel⟩ ?hw ?hc
   (case hl=>
    intro w
    refine Ci (HWa w) ?_
    delta openEnds fencedOpening topFrom
    rw [PySem.W.Fast.te14364793385576792824,PySem.W.Fast.te14082659384304107361,PySem.W.Fast.te10274390034422433532,PySem.W.Fast.te1435165496053646825,PySem.W.Fast.te14289696077712309145]
    kernel_rfl)))
set_option maxHeartbeats 0 in
open_top HWtop for PySem.Challenge.rw_paceplan_k67_whole_a_work_more_lowers_no
end HWs
theorem Hd:1≤PySem.sizeLine:=by decide
theorem oo:2≤PySem.sizeLine:=by decide
theorem JF:3≤PySem.sizeLine:=by decide
theorem MB:4≤PySem.sizeLine:=by decide
theorem MA:6≤PySem.sizeLine:=by decide
namespace L2
open PySem PySem.Spec PyProof.Rows
abbrev cP:=Sum Int Str
def me:cP->Value->Bool
 | .inl k,v=>Value.isInt k v
 | .inr x,v=>Value.isStrOf x v
def KA (w:World):cP->Int
 | .inl k=>hashInt k
 | .inr x=>hashStr w x
theorem bT:∀ {k:cP} {v:Value},me k v=true->(∃ i t,k=Sum.inl i/\v=Value.int i t)∨(∃ x t,k=Sum.inr x/\v=Value.str x t)
 | .inl i,v,h=>by
  obtain⟨t,e⟩:=Value.isInt_shape (k:=i) (v:=v) h
  exact .inl ⟨i,t,rfl,e⟩
 | .inr x,v,h=>by
  obtain⟨t,e⟩:=Value.isStrOf_shape (x:=x) (v:=v) h
  exact .inr ⟨x,t,rfl,e⟩
theorem v7 (i:Int) (t:Tok):me (.inl i) (.int i t)=true:=by simp [me,Value.isInt]
theorem v6 (x:Str) (t:Tok):me (.inr x) (.str x t)=true:=by simp [me,Value.isStrOf]
theorem Ge (a b:Int):decide ((Sum.inl a:cP)=Sum.inl b)=(a == b):=by
 by_cases e:a=b
 ·subst e;simp
 ·have h:¬ (Sum.inl a:cP)=Sum.inl b:=fun q=>e (Sum.inl.inj q)
  rw [decide_eq_false h]
  exact (beq_eq_false_iff_ne.mpr e).symm
theorem Ga (a b:Str):decide ((Sum.inr a:cP)=Sum.inr b)=decide (a=b):=by
 by_cases e:a=b
 ·subst e;simp
 ·have h:¬ (Sum.inr a:cP)=Sum.inr b:=fun q=>e (Sum.inr.inj q)
  rw [decide_eq_false h,decide_eq_false e]
theorem Gc (a:Int) (b:Str):decide ((Sum.inl a:cP)=Sum.inr b)=false:=decide_eq_false (fun q=>nomatch q)
theorem Gb (a:Str) (b:Int):decide ((Sum.inr a:cP)=Sum.inl b)=false:=decide_eq_false (fun q=>nomatch q)
def bQ (prog:Program) (w:World):PySem.KeyKind prog w cP where
 is:=me
 hash:=KA w
 inj:=fun v a b ha hb=>by
  rcases bT ha with ⟨i,t,rfl,rfl⟩ | ⟨x,t,rfl,rfl⟩
  ·rcases bT hb with ⟨j,u,rfl,e⟩ | ⟨y,u,rfl,e⟩
   ·injection e with e1 _;rw [e1]
   ·exact nomatch e
  ·rcases bT hb with ⟨j,u,rfl,e⟩ | ⟨y,u,rfl,e⟩
   ·exact nomatch e
   ·injection e with e1 _;rw [e1]
 byValue:=fun k v h=>by
  rcases bT h with ⟨i,t,rfl,rfl⟩ | ⟨x,t,rfl,rfl⟩ <;> rfl
 pyHash:=fun hv h=>by
  rcases bT hv with ⟨i,t,rfl,rfl⟩ | ⟨x,t,rfl,rfl⟩
  ·exact wpAny_pyHash_int h
  ·exact wpAny_pyHash_str h
 eqBool:=fun hu hv h=>by
  rcases bT hu with ⟨i,t,rfl,rfl⟩ | ⟨x,t,rfl,rfl⟩
  ·rcases bT hv with ⟨j,u,rfl,rfl⟩ | ⟨y,u,rfl,rfl⟩
   ·rw [Ge] at h;exact wpAny_eqBool_int h
   ·rw [Gc] at h;exact SeqAt.EqAt.int_str i t y u _ _ _ _ h
  ·rcases bT hv with ⟨j,u,rfl,rfl⟩ | ⟨y,u,rfl,rfl⟩
   ·rw [Gb] at h;exact SeqAt.EqAt.str_int x t j u _ _ _ _ h
   ·rw [Ga] at h;exact wpAny_eqBool_str h
 «strs»:=fun k x t v h=>by
  rcases bT h with ⟨i,u,rfl,e⟩ | ⟨y,u,rfl,e⟩
  ·exact nomatch e
  ·injection e with e1 _
   subst e1
   cases v <;> rfl
theorem qN (prog:Program) (w:World) (i:Int) (t:Tok):(bQ prog w).is (.inl i) (.int i t)=true:=v7 i t
theorem qM (prog:Program) (w:World) (x:Str) (t:Tok):(bQ prog w).is (.inr x) (.str x t)=true:=v6 x t
end L2
namespace L2
open PySem PySem.Spec PyProof.Rows
inductive V where
 | non | bl (b:Bool) | int (i:Int) | str (x:Str) | byt (b:Array UInt8) | flt (b:UInt64) | ref (a:Addr) | ty (n:String)
 deriving DecidableEq
def aZ:V->Value->Prop
 | .non,u=>u=Value.none
 | .bl b,u=>u=Value.bool b
 | .int i,u=>∃ t,u=Value.int i t
 | .str x,u=>∃ t,u=Value.str x t
 | .byt b,u=>∃ t,u=Value.bytes b t
 | .flt b,u=>∃ t,u=Value.float b t
 | .ref a,u=>u=Value.ref a
 | .ty n,u=>u=Value.type n
abbrev aX:List V->List Value->Prop:=Paired aZ
theorem aX.length {xs:List V} {us:List Value} (r:aX xs us):xs.length=us.length:=Paired.length r
theorem aX.get:∀ {xs:List V} {us:List Value} {i:Nat} {x:V},aX xs us->xs[i]?=some x->∃ u,us[i]?=some u/\aZ x u
 | _,_,_,_,.nil,e=>by simp at e
 | _,_,0,_,.cons r _,e=>by simp at e;subst e;exact⟨_,rfl,r⟩
 | _,_,i+1,x,.cons _ t,e=>by
  obtain⟨u,h1,h2⟩:=aX.get (i:=i) (x:=x) t (by simpa using e)
  exact⟨u,by simpa using h1,h2⟩
theorem aX.set {x:V} {u:Value} (r:aZ x u):∀ {xs:List V} {us:List Value} (i:Nat),aX xs us->aX (xs.set i x) (us.set i u)
 | _,_,_,.nil=>.nil
 | _,_,0,.cons _ t=>.cons r t
 | _,_,i+1,.cons q t=>.cons q (aX.set r i t)
theorem aX.append:∀ {xs ys:List V} {us ws:List Value},aX xs us->aX ys ws->aX (xs++ys) (us++ws)
 | _,_,_,_,.nil,s=>s
 | _,_,_,_,.cons r t,s=>.cons r (aX.append t s)
theorem aX.take:∀ {xs:List V} {us:List Value} (n:Nat),aX xs us->aX (xs.take n) (us.take n)
 | _,_,0,_=>.nil
 | _,_,_+1,.nil=>.nil
 | _,_,n+1,.cons r t=>.cons r (aX.take n t)
theorem aX.drop:∀ {xs:List V} {us:List Value} (n:Nat),aX xs us->aX (xs.drop n) (us.drop n)
 | _,_,0,r=>r
 | _,_,_+1,.nil=>.nil
 | _,_,n+1,.cons _ t=>aX.drop n t
def gX:Option V->Option Value->Prop
 | some v,some u=>aZ v u
 | none,none=>True
 | _,_=>False
def KV {κ:Type}:List (κ×V)->List (κ×Value)->Prop:=Paired fun (p:κ×V) (q:κ×Value)=>p.1=q.1/\aZ p.2 q.2
def kV:cP->V
 | .inl i=>.int i
 | .inr x=>.str x
inductive HO where
 | lst (xs:List V)
 | tup (xs:List V)
 | dK (kvs:List (cP×V)) | dT (kvs:List (List cP×V))
 | set (S:Int->Bool) (n:Nat)
 | ins (C dx:Addr) (fs:List (Str×V))
 | own (x:Addr)
 | xd (fs:List (Str×V))
 | met (f x:Addr)
 | rng (lo hi:Int)
 | frz (o:Obj) (u:HO)
 | tbl (ps:Array Value)
 | ext (φ:Heap->Prop)
abbrev Hp:=Addr->Option HO
def aG (H:Hp) (a:Addr) (o:HO):Hp:=fun b=>if b=a then some o else H b
theorem ai {H:Hp} {a:Addr} {o:HO}:aG H a o a=some o:=by unfold aG;rw [if_pos rfl]
theorem az {H:Hp} {a b:Addr} {o:HO} (h:b≠a):aG H a o b=H b:=by unfold aG;rw [if_neg h]
theorem IJ {H:Hp} {a b:Addr} {o u:HO} (h:H a=some o) (h':H b=some u) (d:o≠u):a≠b:=by
 intro e;subst e;rw [h] at h';exact d (Option.some.inj h')
theorem aK {H:Hp} {a b:Addr} {o:HO} (h:H a=some o) (h':H b=none):a≠b:=by
 intro e;subst e;rw [h] at h';cases h'
section
variable (P:Program) (w:World)
def bE (H:Hp) (h:Heap) (a:Addr):HO->Prop
 | .lst xs=>xs.length≤sizeLine/\∃ (its:List Value) (n:Nat),aX xs its/\h.get? a=some { cls:=.type "list", data:=.seq its.toArray n }
 | .tup xs=>xs.length≤sizeLine/\∃ its:List Value,aX xs its/\IsTup h a its.toArray
 | .dK kvs=>kvs.length≤sizeLine/\(a == sysModules)=false/\∃ vs,KV kvs vs/\h.DictOf (bQ P w) a vs
 | .dT kvs=>kvs.length≤sizeLine/\(a == sysModules)=false/\∃ xs:List (List cP×Addr×Value),
   Paired (fun (p:List cP×V) (q:List cP×Addr×Value)=>p.1=q.1/\H q.2.1=some (.tup (p.1.map kV))/\aZ p.2 q.2.2) kvs xs∧
   ∃ o es ep,h.get? a=some o/\o.ExactDict/\o.data=.dict es ep/\es.toList=xs.map (entryOfKey (tupleKind (bQ P w)))/\(xs.map (·.1)).Nodup
 | .set S n=>h.SetOf (intKind P w) a S n
 | .ins C dx fs=>H dx=some (.own a)/\fs.length≤1000/\dx≠a/\h.get? a=some (PySem.W.instObj C dx)∧
   ∃ mA,h.Ns1 dx mA/\(∀ f,gX (fs.lookup f) (mA f))/\PySem.Within mA (fs.map (·.1))
 | .own _=>∃ o,h.get? a=some o
 | .xd fs=>∃ mA,h.Ns1 a mA/\∀ f,gX (fs.lookup f) (mA f)
 | .rng lo hi=>∃ t u v,h.get? a=some { cls:=.type "range", data:=.fields #[.int lo t,.int hi u,.int 1 v] }
 | .frz o u=>h.get? a=some o/\bE H h a u
 | .tbl ps=>h.get? a=some { cls:=.none,data:=.fields ps }
 | .met f x=>h.get? a=some (PySem.W.methodObj (.ref f) (.ref x))
 | .ext φ=>φ h/\(∃ o,h.get? a=some o)/\∀ h1 h2:Heap,φ h1->(∀ o,h1.get? a=some o->h2.get? a=some o)->φ h2
def iR (H:Hp) (h:Heap):Prop:=∀ a o,H a=some o->bE P w H h a o
end
section
variable {P:Program} {w:World} {H H':Hp} {h h':Heap} {a:Addr} {o:HO}
theorem bE.lt (x:bE P w H h a o):a < h.objs.size:=by
 cases o with
 | lst xs=>obtain⟨_,_,_,_,e⟩:=x;exact Heap.lt_size e
 | tup xs=>obtain⟨_,_,_,p⟩:=x;exact p.lt
 | dK kvs=>obtain⟨_,_,_,_,o,_,_,e,_⟩:=x;exact Heap.lt_size e
 | dT kvs=>obtain⟨_,_,_,_,o,_,_,e,_⟩:=x;exact Heap.lt_size e
 | set S n=>obtain⟨o,_,_,_,e,_⟩:=x;exact Heap.lt_size e
 | ins C dx fs=>obtain⟨_,_,_,e,_⟩:=x;exact Heap.lt_size e
 | own y=>obtain⟨_,e⟩:=x;exact Heap.lt_size e
 | xd fs=>obtain⟨_,⟨_,_,_,e,_⟩,_⟩:=x;exact Heap.lt_size e
 | rng lo hi=>obtain⟨_,_,_,e⟩:=x;exact Heap.lt_size e
 | frz ob u=>obtain⟨e,_⟩:=x;exact Heap.lt_size e
 | tbl ps=>exact Heap.lt_size (show h.get? a=some _ from x)
 | met f y=>exact Heap.lt_size (show h.get? a=some _ from x)
 | ext φ=>obtain⟨_,⟨_,e⟩,_⟩:=x;exact Heap.lt_size e
theorem Paired.mapP {α β:Type} {F G:α->β->Prop}:∀ {l₁:List α} {l₂:List β},Paired F l₁ l₂->(∀ a b,F a b->G a b)->Paired G l₁ l₂
 | _,_,.nil,_=>.nil
 | _,_,.cons r t,f=>.cons (f _ _ r) (Paired.mapP t f)
theorem bE.stay (x:bE P w H h a o) (k:∀ b u,(b=a∨H b=some (.own a))->h.get? b=some u->h'.get? b=some u)
  (ho:∀ b,H b=some (.own a)->H' b=some (.own a)) (ht:∀ b xs,H b=some (.tup xs)->H' b=some (.tup xs)):bE P w H' h' a o:=by
 induction o with
 | lst xs=>obtain⟨z,its,n,r,e⟩:=x;exact⟨z,its,n,r,k _ _ (.inl rfl) e⟩
 | tup xs=>obtain⟨z,its,r,ob,e,c⟩:=x;exact⟨z,its,r,ob,k _ _ (.inl rfl) e,c⟩
 | dK kvs=>obtain⟨z,y,vs,r,ob,es,ep,e,c⟩:=x;exact⟨z,y,vs,r,ob,es,ep,k _ _ (.inl rfl) e,c⟩
 | dT kvs=>
  obtain⟨z,y,xs,r,ob,es,ep,e,c⟩:=x
  exact⟨z,y,xs,Paired.mapP r fun p q z=>⟨z.1,ht _ _ z.2.1,z.2.2⟩,ob,es,ep,k _ _ (.inl rfl) e,c⟩
 | set S n=>obtain⟨ob,es,ep,t,e,c⟩:=x;exact⟨ob,es,ep,t,k _ _ (.inl rfl) e,c⟩
 | ins C dx fs=>
  obtain⟨d,z,ne,e,mA,⟨od,es,ep,e2,c⟩,r⟩:=x
  exact⟨ho _ d,z,ne,k _ _ (.inl rfl) e,mA,⟨od,es,ep,k _ _ (.inr d) e2,c⟩,r⟩
 | own y=>obtain⟨ob,e⟩:=x;exact⟨ob,k _ _ (.inl rfl) e⟩
 | xd fs=>obtain⟨mA,⟨od,es,ep,e,c⟩,r⟩:=x;exact⟨mA,⟨od,es,ep,k _ _ (.inl rfl) e,c⟩,r⟩
 | rng lo hi=>obtain⟨t,u,v,e⟩:=x;exact⟨t,u,v,k _ _ (.inl rfl) e⟩
 | frz ob u ih=>obtain⟨e,q⟩:=x;exact⟨k _ _ (.inl rfl) e,ih q⟩
 | tbl ps=>
  have e:h.get? a=some { cls:=.none,data:=.fields ps }:=x
  show h'.get? a=some { cls:=.none,data:=.fields ps }
  exact k a _ (.inl rfl) e
 | met f y=>
  have e:h.get? a=some (PySem.W.methodObj (.ref f) (.ref y)):=x
  show h'.get? a=some (PySem.W.methodObj (.ref f) (.ref y))
  exact k a _ (.inl rfl) e
 | ext φ=>obtain⟨p,⟨o,e⟩,st⟩:=x;exact⟨st _ _ p fun o q=>k _ _ (.inl rfl) q,⟨o,k _ _ (.inl rfl) e⟩,st⟩
theorem iR.lt (x:iR P w H h) (e:H a=some o):a < h.objs.size:=(x a o e).lt
theorem iR.fresh (x:iR P w H h) (e:h.objs.size≤a):H a=none:=by
 cases q:H a with
 | none=>rfl
 | some u=>exact absurd (Nat.lt_of_lt_of_le (x.lt q) e) (Nat.lt_irrefl _)
theorem iR.kept (x:iR P w H h) (k:∀ b u,h.get? b=some u->h'.get? b=some u):iR P w H h':=fun a o e=>
 (x a o e).stay (fun b u _ q=>k b u q) (fun _ q=>q) fun _ _ q=>q
theorem iR.laid (x:iR P w H h) (k:∀ b u,h.get? b=some u->h'.get? b=some u) (hp:h.objs.size≤a) (new:bE P w (aG H a o) h' a o):iR P w (aG H a o) h':=fun b u e=>by
 have hn:=x.fresh hp
 by_cases hb:b=a
 ·subst hb;rw [ai] at e;cases e;exact new
 ·rw [az hb] at e
  exact (x b u e).stay (fun c v _ q=>k c v q) (fun c q=>by rw [az (aK q hn)];exact q) fun c xs q=>by rw [az (aK q hn)];exact q
end
def Rd (H:Hp) (a:Addr) (u:HO):Prop:=H a=some u∨∃ o,H a=some (.frz o u)
theorem Rd.ok {P:Program} {w:World} {H:Hp} {h:Heap} {a:Addr} {u:HO} (r:Rd H a u) (x:iR P w H h):bE P w H h a u:=by
 rcases r with r | ⟨o,r⟩
 ·exact x a u r
 ·obtain⟨_,q⟩:=x a _ r
  exact q
def Jp:Option HO->Prop
 | some (.lst _)=>True
 | some (.dK _)=>True
 | some (.dT _)=>True
 | some (.set _ _)=>True
 | some (.ins _ _ _)=>True
 | some (.ext _)=>True
 | _=>False
section
variable {P:Program} {w:World} {H:Hp} {h h':Heap} {x e:Addr} {o':HO}
theorem iR.write (ok:iR P w H h) (mu:Jp (H x)) (he:e=x∨H e=some (.own x)) (k:∀ b u,b≠e->h.get? b=some u->h'.get? b=some u) (heo:∃ u,h'.get? e=some u)
  (new:bE P w (aG H x o') h' x o'):iR P w (aG H x o') h':=fun b u q=>by
 have nown:∀ c y,H c=some (.own y)->c≠x:=fun c y r z=>by subst z;rw [r] at mu;exact mu
 have ntup:∀ c xs,H c=some (.tup xs)->c≠x:=fun c xs r z=>by subst z;rw [r] at mu;exact mu
 by_cases hb:b=x
 ·subst hb;rw [ai] at q;cases q;exact new
 ·rw [az hb] at q
  by_cases hbe:b=e
  ·have q':H b=some (.own x):=by
    rcases he with z | z
    ·exact absurd (hbe.trans z) hb
    ·rw [hbe];exact z
   rw [q] at q';cases q'
   obtain⟨v,hv⟩:=heo
   exact⟨v,by rw [hbe];exact hv⟩
  ·refine (ok b u q).stay (fun c v hc r=>k c v ?_ r) (fun c r=>by rw [az (nown c b r)];exact r) fun c xs r=>by rw [az (ntup c xs r)];exact r
   rcases hc with rfl | hc
   ·exact hbe
   ·rintro rfl
    rcases he with z | z
    ·exact nown c b hc z
    ·rw [hc] at z;cases z;exact hb rfl
end
structure Un (fs ex:List Addr) (H H':Hp) (h h':Heap):Prop where
 keep:∀ b o,h.get? b=some o->H b=none->b∉fs->b∉ex->h'.get? b=some o
 slot:∀ b o,h.get? b=some o->H b=none->b∈fs->b∉ex->∃ sl,h'.get? b=some { o with slots:=sl }
 free:∀ b o,h.get? b=some o->H b=none->b∉ex->H' b=none
 there:∀ b o,h.get? b=some o->b∉ex->∃ o',h'.get? b=some o'
 tups:∀ b xs,H b=some (.tup xs)->H' b=some (.tup xs)
 frzs:∀ b o u,H b=some (.frz o u)->H' b=some (.frz o u)
 tbls:∀ b ps,H b=some (.tbl ps)->∃ more,H' b=some (.tbl (ps++more))
section
variable {fs fs' ex ex':List Addr} {H H1 H2:Hp} {h h1 h2 h':Heap} {a x e:Addr} {o:HO}
theorem Un.any (u:Un fs ex H H1 h h1) {b:Addr} {ob:Obj} (q:h.get? b=some ob) (n:H b=none) (hx:b∉ex):∃ sl,h1.get? b=some { ob with slots:=sl }:=by
 by_cases hb:b∈fs
 ·exact u.slot b ob q n hb hx
 ·exact⟨ob.slots,u.keep b ob q n hb hx⟩
theorem Un.kept (k:∀ b u,h.get? b=some u->h'.get? b=some u):Un fs ex H H h h':=
 ⟨fun b ob q _ _ _=>k b ob q,fun b ob q _ _ _=>⟨ob.slots,k b ob q⟩,fun _ _ _ n _=>n,fun b ob q _=>⟨ob,k b ob q⟩,fun _ _ q=>q,fun _ _ _ q=>q,fun _ ps q=>⟨#[],by rw [q];simp⟩⟩
theorem Un.refl:Un fs ex H H h h:=Un.kept fun _ _ q=>q
theorem Un.laid (k:∀ b u,h.get? b=some u->h'.get? b=some u) (hp:h.objs.size≤a) (hn:H a=none):Un fs ex H (aG H a o) h h' where
 keep:=fun b u q _ _ _=>k b u q
 slot:=fun b u q _ _ _=>⟨u.slots,k b u q⟩
 free:=fun b u q n _=>by rw [az (Nat.ne_of_lt (Nat.lt_of_lt_of_le (Heap.lt_size q) hp))];exact n
 there:=fun b u q _=>⟨u,k b u q⟩
 tups:=fun b xs q=>by rw [az (aK q hn)];exact q
 frzs:=fun b u xs q=>by rw [az (aK q hn)];exact q
 tbls:=fun b ps q=>⟨#[],by rw [az (aK q hn),q];simp⟩
theorem Un.write (mu:Jp (H x)) (he:e=x∨H e=some (.own x)) (k:∀ b u,b≠e->h.get? b=some u->h'.get? b=some u) (heo:∃ u,h'.get? e=some u):Un fs ex H (aG H x o) h h':=by
 have hx:∀ b,H b=none->b≠x:=fun b n z=>by subst z;rw [n] at mu;exact mu
 have hb:∀ b,H b=none->b≠e:=fun b n z=>by
  subst z
  rcases he with r | r
  ·exact hx b n r
  ·rw [n] at r;cases r
 have hm:∀ b u,H b=some u->¬ Jp (some u)->b≠x:=fun b u q nm z=>by subst z;rw [q] at mu;exact nm mu
 refine⟨fun b u q n _ _=>k b u (hb b n) q,fun b u q n _ _=>⟨u.slots,k b u (hb b n) q⟩,fun b u q n _=>by rw [az (hx b n)];exact n,fun b u q _=>?_,
  fun b xs q=>by rw [az (hm b _ q fun z=>z)];exact q,fun b u xs q=>by rw [az (hm b _ q fun z=>z)];exact q,fun b ps q=>⟨#[],by rw [az (hm b _ q fun z=>z),q];simp⟩⟩
 by_cases hbe:b=e
 ·subst hbe;exact heo
 ·exact⟨u,k b u hbe q⟩
end
def JG (h:Heap) (H:Hp):List Addr:=(List.range h.objs.size).filter fun a=>(H a).isSome
def pN (h:Heap) (H:Hp):Heap:=PySem.W.hideAll h (JG h H)
theorem wd (h:Heap) (H:Hp):(pN h H).objs.size=h.objs.size:=PySem.W.hideAll_size _ _
theorem Ap {h:Heap} {H:Hp} {b:Addr} {o:Obj} (e:h.get? b=some o) (n:H b=none):(pN h H).get? b=some o:=
 PySem.W.hideAll_get _ e fun hm=>by
  have q:(H b).isSome=true:=(List.mem_filter.mp hm).2
  rw [n] at q;simp at q
theorem Co {h:Heap} {H:Hp} {b:Addr} {o:Obj} (e:(pN h H).get? b=some o):h.get? b=some o/\H b=none:=by
 have e':h.get? b=some o:=PySem.W.of_hideAll (JG h H) e
 refine⟨e',?_⟩
 cases q:H b with
 | none=>rfl
 | some x=>
  have hm:b∈JG h H:=List.mem_filter.mpr ⟨List.mem_range.mpr (Heap.lt_size e'),by simp [q]⟩
  have z:(pN h H).get? b=none:=PySem.W.hideAll_none (JG h H) hm
  rw [z] at e;cases e
def C8 (g h:Heap) (L:Addr):List (Addr×Obj):=(List.range h.objs.size).filterMap fun a=>if a=L∨(g.get? a).isSome=true then none else (h.get? a).map fun o=>(a,o)
def eh (g h:Heap) (L d:Addr):List (Addr×Obj):=(C8 g h L).filter fun p=>decide (p.1≠d)
end L2
namespace L2
open PySem PySem.Spec PyProof.Rows
structure Mod (K:PySem.W.Frag) (mg:Str->Option Value) (base:Heap):Prop where
 kin:K.In base
 glob:base.Ns mainGlobals mg
 blt:∃ mb,base.Ns builtinsNs mb/\∀ x:Str,x ≠ "__name__" -> mb x=bootBuiltins x
 nolimit:base.NoLimit
structure Cx where
 prog:Program
 w:World
 K:PySem.W.Frag
 mg:Str->Option Value
 base:Heap
 A:Around
 N:List Str
 s₀:Shared
 H₀:Hp
 env:Env
 outer:List Env
 stack:List Env
 ex:List Addr
 fn:Str->Bool
 calm:Bool
 pn:List (Addr×Obj)
 xe:Value->Shared->Prop
def uI (l:List Env):List Addr:=l.filterMap (·.frame)
abbrev Cx.fs (X:Cx):List Addr:=uI X.outer
def Jh (sc:Scope) (x:Str):Prop:=sc.names.lookup x=some .local∨sc.names.lookup x=some .cell∨sc.names.lookup x=some .free
def wX (sc:Scope) (x:Str):Prop:=sc.names.lookup x=some .local∨sc.names.lookup x=some .cell
def K6 (env:Env) (h:Heap) (m:Str->Option Value) (x:Str) (u:Value):Prop:=
 (env.kindOf x=some .local/\m x=some u)∨((env.kindOf x=some .cell∨env.kindOf x=some .free)/\∃ c,env.cells.lookup x=some c/\h.IsCell c (some u))
structure Cx.Ok (X:Cx):Prop where
 mod:Mod X.K X.mg X.base
 kind:X.env.scope.kind=.function
 glob:X.env.globals=mainGlobals
 blt:X.env.builtins=builtinsNs
 above:X.s₀.heap.objs.size≤X.env.locals
 inj:∀ x y c,X.env.cells.lookup x=some c->X.env.cells.lookup y=some c->x=y
 has:∀ x,(X.env.kindOf x=some .cell∨X.env.kindOf x=some .free)->∃ c,X.env.cells.lookup x=some c
 cab:∀ x c,X.fn x=true->X.env.cells.lookup x=some c->X.s₀.heap.objs.size≤c
 hd:X.calm=true->X.A.handled=none
 frames:X.A.frames=some X.stack
 stk:X.stack=X.outer∨(X.stack=X.env :: X.outer/\X.env.frame=some X.env.locals)
 exf:∀ b∈X.ex,b≠X.env.locals/\∀ x c,X.env.cells.lookup x=some c->c≠b
 bs:∀ b o,X.base.get? b=some o->X.s₀.heap.get? b=some o/\X.H₀ b=none
 bsz:X.base.objs.size≤X.s₀.heap.objs.size
 noex:∀ b o,X.base.get? b=some o->b∉X.ex
 exfs:∀ b∈X.ex,b∉X.fs
 funs:X.s₀.heap.FunFrames X.base X.outer
 frf:∀ b∈X.fs,X.H₀ b=none
structure Inv (X:Cx) (pins:List (Addr×Obj)) (σ:List (Option V)) (H:Hp) (s:Shared):Prop where
 ok:X.Ok
 os:s.os=X.s₀.os
 bare:AllBare s.gens
 base:Un X.fs X.ex X.H₀ H X.s₀.heap s.heap
 loc:∃ m,s.heap.Ns X.env.locals m/\∀ (i:Nat) (x:Str) (v:V),X.N[i]?=some x->σ[i]?=some (some v)->Jh X.env.scope x->∃ u,aZ v u/\K6 X.env s.heap m x u
 cell:∀ x c,X.env.cells.lookup x=some c->∃ v,s.heap.IsCell c v
 free:H X.env.locals=none
 freeC:∀ x c,X.env.cells.lookup x=some c->H c=none
 pin:∀ p∈X.pn++pins,s.heap.get? p.1=some p.2/\H p.1=none/\p.1≠X.env.locals/\p.1∉X.fs/\∀ v,p.2.data≠.cell v
 hok:iR X.prog X.w H s.heap
 len:σ.length=X.N.length
section
variable {X:Cx} {pins:List (Addr×Obj)} {σ:List (Option V)} {H H':Hp} {s:Shared} {h':Heap}
theorem Cx.Ok.nofr (ok:X.Ok) {b:Addr} {o:Obj} (e:X.base.get? b=some o):b∉X.fs:=fun hb=>by
 have:=(ok.funs.mem hb).1
 rw [e] at this;cases this
theorem Inv.bs (I:Inv X pins σ H s):∀ b o,X.base.get? b=some o->s.heap.get? b=some o/\H b=none:=fun b o e=>
 ⟨I.base.keep b o (I.ok.bs b o e).1 (I.ok.bs b o e).2 (I.ok.nofr e) (I.ok.noex b o e),I.base.free b o (I.ok.bs b o e).1 (I.ok.bs b o e).2 (I.ok.noex b o e)⟩
theorem Inv.bk (I:Inv X pins σ H s):∀ b o,X.base.get? b=some o->s.heap.get? b=some o:=fun b o e=>(I.bs b o e).1
theorem Inv.mod (I:Inv X pins σ H s):Mod X.K X.mg X.base:=I.ok.mod
theorem Inv.kIn (I:Inv X pins σ H s):X.K.In s.heap:=I.ok.mod.kin.keeps I.bk
theorem Inv.lt (I:Inv X pins σ H s):X.env.locals < s.heap.objs.size:=let ⟨_,hn,_⟩:=I.loc;hn.lt
theorem Inv.sz (I:Inv X pins σ H s):X.s₀.heap.objs.size≤s.heap.objs.size:=Nat.le_trans I.ok.above (Nat.le_of_lt I.lt)
theorem Inv.nofs (I:Inv X pins σ H s) {a:Addr} (h:s.heap.objs.size≤a):a∉X.fs:=fun hb=>by
 obtain⟨_,o,ho,_⟩:=I.ok.funs.mem hb
 exact absurd (Nat.lt_of_lt_of_le (Heap.lt_size ho) (Nat.le_trans I.sz h)) (Nat.lt_irrefl _)
theorem Inv.cne (I:Inv X pins σ H s):∀ x c,X.env.cells.lookup x=some c->c≠X.env.locals:=fun x c e z=>by
 obtain⟨v,o,ho,hd⟩:=I.cell x c e
 obtain⟨m,⟨o',es,ep,ho',hd',_⟩,_⟩:=I.loc
 rw [z,ho'] at ho;cases ho;rw [hd'] at hd;cases hd
theorem Inv.funs (I:Inv X pins σ H s):s.heap.FunFrames X.base X.outer:=by
 have all:∀ (l:List Env),(∀ b∈uI l,b∈X.fs)->X.s₀.heap.FunFrames X.base l->s.heap.FunFrames X.base l:=by
  intro l
  induction l with
  | nil=>intro _ _;trivial
  | cons env r ih=>
   intro hs hl
   obtain⟨hk,⟨L,o,hf,hn,ho,hd⟩,hr⟩:=hl
   have hL:L∈X.fs:=hs L (by unfold uI;rw [List.filterMap_cons,hf];exact List.mem_cons_self)
   obtain⟨sl,e⟩:=I.base.slot L o ho (I.ok.frf L hL) hL fun z=>I.ok.exfs L z hL
   exact⟨hk,⟨L,_,hf,hn,e,hd⟩,ih (fun b hb=>hs b (by unfold uI;rw [List.filterMap_cons,hf];exact List.mem_cons_of_mem _ hb)) hr⟩
 exact all X.outer (fun _ hb=>hb) I.ok.funs
theorem Inv.stack (I:Inv X pins σ H s):s.heap.FunFrames X.base X.stack:=by
 rcases I.ok.stk with e | ⟨e,hf⟩
 ·rw [e];exact I.funs
 ·rw [e]
  obtain⟨m,hn,_⟩:=I.loc
  refine .cons (by rw [I.ok.kind];decide) hf hn ?_ I.funs
  exact Heap.get?_none_of_le (Nat.le_trans I.ok.bsz I.ok.above)
theorem Inv.stkSub (I:Inv X pins σ H s):∀ b∈uI X.stack,b∈X.env.locals :: X.fs:=fun b hb=>by
 rcases I.ok.stk with e | ⟨e,hf⟩
 ·rw [e] at hb;exact List.mem_cons_of_mem _ hb
 ·rw [e] at hb
  unfold uI at hb
  rw [List.filterMap_cons,hf] at hb
  exact hb
theorem Inv.stkFree (I:Inv X pins σ H s):∀ b∈uI X.stack,H b=none:=fun b hb=>by
 rcases List.mem_cons.mp (I.stkSub b hb) with e | hb
 ·rw [e];exact I.free
 ·obtain⟨_,o,ho,_⟩:=I.ok.funs.mem hb
  exact I.base.free b o ho (I.ok.frf b hb) fun z=>I.ok.exfs b z hb
theorem Inv.step {g':Array GenState} {t':Nat} {d':Drawn} {ch:List Addr} (I:Inv X pins σ H s)
  (hch:∀ b∈ch,(b∈X.ex∨X.s₀.heap.get? b=none)/\b≠X.env.locals/\(∀ x c,X.env.cells.lookup x=some c->c≠b)/\∀ p∈X.pn++pins,p.1≠b)
  (keep:∀ b o,b≠X.env.locals->b∉X.fs->b∉ch->s.heap.get? b=some o->H b=none->h'.get? b=some o)
  (slot:∀ b o,b≠X.env.locals->b∈X.fs->b∉ch->s.heap.get? b=some o->H b=none->∃ sl,h'.get? b=some { o with slots:=sl }) (free:∀ b o,b∉ch->s.heap.get? b=some o->H b=none->H' b=none)
  (there:∀ b o,b∉ch->s.heap.get? b=some o->∃ o',h'.get? b=some o')
  (tups:∀ b xs,H b=some (.tup xs)->H' b=some (.tup xs)) (frzs:∀ b o u,H b=some (.frz o u)->H' b=some (.frz o u)) (tbls:∀ b ps,H b=some (.tbl ps)->∃ more,H' b=some (.tbl (ps++more)))
  (ns:∀ m,s.heap.Ns X.env.locals m->h'.Ns X.env.locals m) (hok:iR X.prog X.w H' h') (hg:AllBare g') :
  Inv X pins σ H' { s with heap:=h',gens:=g',drawn:=d',toks:=t' }:=by
 have neL:∀ b o,X.s₀.heap.get? b=some o->b≠X.env.locals:=fun b o e=>Nat.ne_of_lt (Nat.lt_of_lt_of_le (Heap.lt_size e) I.ok.above)
 have neC:∀ b o,X.s₀.heap.get? b=some o->b∉X.ex->b∉ch:=fun b o e hx hb=>by
  rcases (hch b hb).1 with z | z
  ·exact hx z
  ·rw [e] at z;cases z
 have cellK:∀ x c,X.env.cells.lookup x=some c->∀ v,s.heap.IsCell c v->h'.IsCell c v:=fun x c e v ⟨o,ho,hd⟩=>by
  have nch:c∉ch:=fun z=>(hch c z).2.2.1 x c e rfl
  by_cases hc:c∈X.fs
  ·obtain⟨sl,q⟩:=slot c o (I.cne x c e) hc nch ho (I.freeC x c e)
   exact⟨_,q,hd⟩
  ·exact⟨o,keep c o (I.cne x c e) hc nch ho (I.freeC x c e),hd⟩
 refine⟨I.ok,I.os,hg,⟨fun b o e n hb hx=>?_,fun b o e n hb hx=>?_,fun b o e n hx=>?_,fun b o e hx=>?_,fun b xs e=>tups b xs (I.base.tups b xs e),fun b o xs e=>frzs b o xs (I.base.frzs b o xs e),fun b ps e=>?_⟩,?_,fun x c e=>?_,?_,fun x c e=>?_,fun p hp=>?_,hok,I.len⟩
 ·exact keep b o (neL b o e) hb (neC b o e hx) (I.base.keep b o e n hb hx) (I.base.free b o e n hx)
 ·obtain⟨sl,e1⟩:=I.base.slot b o e n hb hx
  obtain⟨sl',e2⟩:=slot b _ (neL b o e) hb (neC b o e hx) e1 (I.base.free b o e n hx)
  exact⟨sl',e2⟩
 ·obtain⟨o',e1⟩:=I.base.there b o e hx
  exact free b o' (neC b o e hx) e1 (I.base.free b o e n hx)
 ·obtain⟨o',e1⟩:=I.base.there b o e hx
  exact there b o' (neC b o e hx) e1
 ·obtain⟨m1,e1⟩:=I.base.tbls b ps e
  obtain⟨m2,e2⟩:=tbls b _ e1
  exact⟨m1++m2,by rw [e2,Array.append_assoc]⟩
 ·obtain⟨m,hn,hl⟩:=I.loc
  refine⟨m,ns m hn,fun i x v e1 e2 e3=>?_⟩
  obtain⟨u,r,l⟩:=hl i x v e1 e2 e3
  refine⟨u,r,?_⟩
  rcases l with l | ⟨k,c,e,z⟩
  ·exact .inl l
  ·exact .inr ⟨k,c,e,cellK x c e _ z⟩
 ·obtain⟨v,z⟩:=I.cell x c e
  exact⟨v,cellK x c e v z⟩
 ·obtain⟨m,⟨o,_,_,ho,_⟩,_⟩:=I.loc
  exact free _ o (fun z=>(hch _ z).2.1 rfl) ho I.free
 ·obtain⟨v,o,ho,hd⟩:=I.cell x c e
  exact free c o (fun z=>(hch c z).2.2.1 x c e rfl) ho (I.freeC x c e)
 ·obtain⟨e,n,ne,nf,d⟩:=I.pin p hp
  have nch:p.1∉ch:=fun z=>(hch p.1 z).2.2.2 p hp rfl
  exact⟨keep p.1 p.2 ne nf nch e n,free p.1 p.2 nch e n,ne,nf,d⟩
theorem Inv.un {t':Nat} (I:Inv X pins σ H s) (u:Un X.fs [] H H' s.heap h') (hok:iR X.prog X.w H' h'):Inv X pins σ H' { s with heap:=h',toks:=t' }:=by
 obtain⟨m,⟨o,es,ep,ho,r⟩,_⟩:=id I.loc
 obtain⟨sl,hL⟩:=u.any ho I.free (by simp)
 exact I.step (g':=s.gens) (d':=s.drawn) (ch:=[]) (fun _ z=>nomatch z) (fun b o _ hb _ e n=>u.keep b o e n hb (by simp)) (fun b o _ hb _ e n=>u.slot b o e n hb (by simp)) (fun b o _ e n=>u.free b o e n (by simp)) (fun b o _ e=>u.there b o e (by simp)) u.tups u.frzs u.tbls (fun m' hm=>by
  obtain⟨o',es',ep',ho',r'⟩:=hm
  rw [ho] at ho';cases ho'
  exact⟨_,es',ep',hL,r'⟩) hok I.bare
theorem Inv.call {g':Array GenState} {t':Nat} {d':Drawn} {ch:List Addr} (I:Inv X pins σ H s) (u:Un (uI X.stack) ch H H' s.heap h') (hok:iR X.prog X.w H' h') (hg:AllBare g')
  (hch:∀ b∈ch,(b∈X.ex∨X.s₀.heap.get? b=none)/\b≠X.env.locals/\(∀ x c,X.env.cells.lookup x=some c->c≠b)/\∀ p∈X.pn++pins,p.1≠b) :
  Inv X pins σ H' { s with heap:=h',gens:=g',drawn:=d',toks:=t' }:=by
 obtain⟨m,⟨o,es,ep,ho,r⟩,_⟩:=id I.loc
 obtain⟨sl,hL⟩:=u.any ho I.free fun z=>(hch _ z).2.1 rfl
 exact I.step (ch:=ch) hch (fun b o hL hb hc e n=>u.keep b o e n (fun z=>(List.mem_cons.mp (I.stkSub b z)).elim hL hb) hc) (fun b o _ _ hc e n=>u.any e n hc) (fun b o hc e n=>u.free b o e n hc) (fun b o hc e=>u.there b o e hc) u.tups u.frzs u.tbls (fun m' hm=>by
  obtain⟨o',es',ep',ho',r'⟩:=hm
  rw [ho] at ho';cases ho'
  exact⟨_,es',ep',hL,r'⟩) hok hg
theorem Inv.turned {t':Nat} {it:Addr} (I:Inv X pins σ H s) (k:∀ b o,b≠it->s.heap.get? b=some o->h'.get? b=some o) (hn:H it=none) (hL:it≠X.env.locals)
  (h1:it∈X.ex∨X.s₀.heap.get? it=none) (h2:∀ x c,X.env.cells.lookup x=some c->c≠it) (h3:∀ p∈X.pn++pins,p.1≠it):Inv X pins σ H { s with heap:=h',toks:=t' }:=by
 have nit:∀ b u,H b=some u->b≠it:=fun b u e z=>by rw [z,hn] at e;cases e
 refine I.step (g':=s.gens) (d':=s.drawn) (ch:=[it]) (fun b hb=>?_) (fun b o _ _ hc e _=>k b o (fun z=>hc (by simp [z])) e) (fun b o _ _ hc e _=>⟨o.slots,k b o (fun z=>hc (by simp [z])) e⟩) (fun _ _ _ _ n=>n)
  (fun b o hc e=>⟨o,k b o (fun z=>hc (by simp [z])) e⟩) (fun _ _ e=>e) (fun _ _ _ e=>e) (fun b ps e=>⟨#[],by rw [e];simp⟩) (fun m hm=>?_) (fun b u e=>?_) I.bare
 ·have e:b=it:=by simpa using hb
  subst e
  exact⟨h1,hL,h2,h3⟩
 ·obtain⟨o,es,ep,ho,r⟩:=hm
  exact⟨o,es,ep,k _ o (Ne.symm hL) ho,r⟩
 ·refine (I.hok b u e).stay (fun c v hc q=>k c v ?_ q) (fun _ q=>q) fun _ _ q=>q
  rcases hc with z | z
  ·rw [z];exact nit b u e
  ·exact nit c _ z
theorem Inv.tok (I:Inv X pins σ H s) (t:Nat):Inv X pins σ H { s with toks:=t }:=I.un (h':=s.heap) (t':=t) Un.refl I.hok
theorem Inv.kept {t':Nat} (I:Inv X pins σ H s) (k:∀ b u,s.heap.get? b=some u->h'.get? b=some u):Inv X pins σ H { s with heap:=h',toks:=t' }:=I.un (Un.kept k) (I.hok.kept k)
theorem Inv.laid {a:Addr} {o:HO} {t':Nat} (I:Inv X pins σ H s) (k:∀ b u,s.heap.get? b=some u->h'.get? b=some u) (hp:s.heap.objs.size≤a) (new:bE X.prog X.w (aG H a o) h' a o) :
  Inv X pins σ (aG H a o) { s with heap:=h',toks:=t' }:=I.un (Un.laid k hp (I.hok.fresh hp)) (I.hok.laid k hp new)
theorem Inv.write {x e:Addr} {o:HO} {t':Nat} (I:Inv X pins σ H s) (mu:Jp (H x)) (he:e=x∨H e=some (.own x)) (k:∀ b u,b≠e->s.heap.get? b=some u->h'.get? b=some u) (heo:∃ u,h'.get? e=some u)
  (new:bE X.prog X.w (aG H x o) h' x o):Inv X pins σ (aG H x o) { s with heap:=h',toks:=t' }:=I.un (Un.write mu he k heo) (I.hok.write mu he k heo new)
theorem Inv.weak {σ':List (Option V)} (I:Inv X pins σ H s) (hl:σ'.length=σ.length) (w:∀ (i:Nat) v,σ'[i]?=some (some v)->σ[i]?=some (some v)):Inv X pins σ' H s:=
 ⟨I.ok,I.os,I.bare,I.base,let ⟨m,hn,hl'⟩:=I.loc;⟨m,hn,fun i x v e1 e2 e3=>hl' i x v e1 (w i v e2) e3⟩,I.cell,I.free,I.freeC,I.pin,I.hok,hl.trans I.len⟩
theorem Inv.pins_of {pins':List (Addr×Obj)} (I:Inv X pins σ H s) (h:∀ p∈pins',s.heap.get? p.1=some p.2/\H p.1=none/\p.1≠X.env.locals/\p.1∉X.fs/\∀ v,p.2.data≠.cell v):Inv X pins' σ H s:=
 ⟨I.ok,I.os,I.bare,I.base,I.loc,I.cell,I.free,I.freeC,fun p hp=>(List.mem_append.mp hp).elim (fun z=>I.pin p (List.mem_append_left _ z)) (h p),I.hok,I.len⟩
theorem qL {N:List Str} (hN:N.Nodup) {i j:Nat} {x:Str} (a:N[i]?=some x) (b:N[j]?=some x):i=j:=by
 obtain⟨h1,e1⟩:=List.getElem?_eq_some_iff.mp a
 obtain⟨h2,e2⟩:=List.getElem?_eq_some_iff.mp b
 exact (List.getElem_inj hN).mp (e1.trans e2.symm)
theorem vz {M:Model} {A:Around} {E:Value->Shared->Prop} {i:Nat} {x:Str} {v:V} {u:Value} {Q:Unit->Shared->Prop} (I:Inv X pins σ H s) (hN:X.N.Nodup) (hi:X.N[i]?=some x) (hx:wX X.env.scope x) (r:aZ v u)
  (h:∀ s',Inv X pins (σ.set i (some v)) H s'->(∃ a,Heap.SameBut a s.heap s'.heap/\(a=X.env.locals∨X.env.cells.lookup x=some a))->Q () s') (hf:X.fn x=true∨X.env.scope.names.lookup x=some .local:=by first | exact .inl rfl | exact .inr rfl | assumption):wpAny M A (storeName X.env x u) Q E s:=by
 obtain⟨m,hn,hl⟩:=id I.loc
 have hcls:(X.env.scope.kind == .class || (X.env.scope.kind == .module && X.env.locals != X.env.globals))=false:=by rw [I.ok.kind];rfl
 have hiσ:i < σ.length:=by rw [I.len];exact (List.getElem?_eq_some_iff.mp hi).1
 have cne:=I.cne
 have tracked:∀ {a:Addr} {h':Heap},(∃ o,s.heap.get? a=some o/\H a=none)->Heap.SameBut a s.heap h'->iR X.prog X.w H h':=fun {a h'} ha hs b ob e=>by
  obtain⟨_,_,hfree⟩:=ha
  refine (I.hok b ob e).stay (fun c w' hc q=>(hs.2 c ?_).trans q) (fun _ q=>q) fun _ _ q=>q
  rintro rfl
  rcases hc with rfl | hc
  ·rw [hfree] at e;cases e
  ·rw [hfree] at hc;cases hc
 rcases hx with hk | hk
 ·refine wpAny_storeName_local hk hn (fun h' hn' hs=>?_) hcls
  obtain⟨oL,_,_,hoL,_⟩:=id hn
  refine h _ ⟨I.ok,I.os,I.bare,⟨fun b o e n hb hx=>?_,fun b o e n hb hx=>?_,I.base.free,fun b o e hx=>?_,I.base.tups,I.base.frzs,I.base.tbls⟩,⟨_,hn',fun j y v' e1 e2 e3=>?_⟩,fun y c e=>?_,I.free,I.freeC,fun p hp=>?_,tracked ⟨oL,hoL,I.free⟩ hs,by simpa using I.len⟩ ⟨_,hs,.inl rfl⟩
  ·exact (hs.2 b (Nat.ne_of_lt (Nat.lt_of_lt_of_le (Heap.lt_size e) I.ok.above))).trans (I.base.keep b o e n hb hx)
  ·obtain⟨sl,e1⟩:=I.base.slot b o e n hb hx
   exact⟨sl,(hs.2 b (Nat.ne_of_lt (Nat.lt_of_lt_of_le (Heap.lt_size e) I.ok.above))).trans e1⟩
  ·obtain⟨o',e1⟩:=I.base.there b o e hx
   exact⟨o',(hs.2 b (Nat.ne_of_lt (Nat.lt_of_lt_of_le (Heap.lt_size e) I.ok.above))).trans e1⟩
  ·by_cases hj:j=i
   ·subst hj
    rw [hi] at e1;cases e1
    rw [List.getElem?_set_self hiσ] at e2
    cases e2
    exact⟨u,r,.inl ⟨hk,by simp⟩⟩
   ·rw [List.getElem?_set_ne (Ne.symm hj)] at e2
    obtain⟨u',r',q⟩:=hl j y v' e1 e2 e3
    refine⟨u',r',?_⟩
    rcases q with ⟨k,e⟩ | ⟨k,c,e,z⟩
    ·refine .inl ⟨k,?_⟩
     have:y≠x:=fun e=>hj (qL hN e1 (e ▸ hi))
     simp [this,e]
    ·exact .inr ⟨k,c,e,z.sameBut hs (cne y c e)⟩
  ·obtain⟨w',z⟩:=I.cell y c e
   exact⟨w',z.sameBut hs (cne y c e)⟩
  ·obtain⟨e,n,ne,nf,d⟩:=I.pin p hp
   exact⟨(hs.2 p.1 ne).trans e,n,ne,nf,d⟩
 ·have hfn:X.fn x=true:=by
   rcases hf with z | z
   ·exact z
   ·rw [z] at hk;cases hk
  obtain⟨c,hc⟩:=I.ok.has x (.inl hk)
  obtain⟨w',z⟩:=I.cell x c hc
  refine wpAny_storeName_cell I.ok.kind hk hc z (fun h' hc' hs=>?_)
  obtain⟨oc,hoc,hocd⟩:=id z
  refine h { s with heap:=h' } ⟨I.ok,I.os,I.bare,⟨fun b o e n hb hx=>?_,fun b o e n hb hx=>?_,I.base.free,fun b o e hx=>?_,I.base.tups,I.base.frzs,I.base.tbls⟩,⟨m,hn.sameBut hs (Ne.symm (cne x c hc)),fun j y v' e1 e2 e3=>?_⟩,fun y c' e=>?_,I.free,I.freeC,fun p hp=>?_,tracked ⟨oc,hoc,I.freeC x c hc⟩ hs,by simpa using I.len⟩ ⟨c,hs,.inr hc⟩
  ·exact (hs.2 b (Nat.ne_of_lt (Nat.lt_of_lt_of_le (Heap.lt_size e) (I.ok.cab x c hfn hc)))).trans (I.base.keep b o e n hb hx)
  ·obtain⟨sl,e1⟩:=I.base.slot b o e n hb hx
   exact⟨sl,(hs.2 b (Nat.ne_of_lt (Nat.lt_of_lt_of_le (Heap.lt_size e) (I.ok.cab x c hfn hc)))).trans e1⟩
  ·obtain⟨o',e1⟩:=I.base.there b o e hx
   exact⟨o',(hs.2 b (Nat.ne_of_lt (Nat.lt_of_lt_of_le (Heap.lt_size e) (I.ok.cab x c hfn hc)))).trans e1⟩
  ·by_cases hj:j=i
   ·subst hj
    rw [hi] at e1;cases e1
    rw [List.getElem?_set_self hiσ] at e2
    cases e2
    exact⟨u,r,.inr ⟨.inl hk,c,hc,hc'⟩⟩
   ·rw [List.getElem?_set_ne (Ne.symm hj)] at e2
    obtain⟨u',r',q⟩:=hl j y v' e1 e2 e3
    refine⟨u',r',?_⟩
    rcases q with q | ⟨k,c',e,z'⟩
    ·exact .inl q
    ·refine .inr ⟨k,c',e,z'.sameBut hs ?_⟩
     rintro rfl
     exact hj (qL hN e1 (I.ok.inj _ _ _ e hc ▸ hi))
  ·by_cases hcc:c'=c
   ·subst hcc;exact⟨_,hc'⟩
   ·obtain⟨w2,z2⟩:=I.cell y c' e
    exact⟨w2,z2.sameBut hs hcc⟩
  ·obtain⟨e,n,ne,nf,d⟩:=I.pin p hp
   refine⟨(hs.2 p.1 ?_).trans e,n,ne,nf,d⟩
   intro q
   rw [q,hoc] at e
   have q':oc=p.2:=Option.some.inj e
   exact d w' (by rw [← q'];exact hocd)
theorem fJ {M:Model} {A:Around} {E:Value->Shared->Prop} {i:Nat} {x:Str} {v:V} {u:Value} {Q:Unit->Shared->Prop} (I:Inv X pins σ H s) (hN:X.N.Nodup) (hi:X.N[i]?=some x) (hx:wX X.env.scope x) (r:aZ v u)
  (h:∀ s',Inv X pins (σ.set i (some v)) H s'->Q () s') (hf:X.fn x=true∨X.env.scope.names.lookup x=some .local:=by first | exact .inl rfl | exact .inr rfl | assumption):wpAny M A (storeName X.env x u) Q E s:=
 vz I hN hi hx r (fun s' I' _=>h s' I') hf
theorem Inv.call' {s':Shared} {ch:List Addr} (I:Inv X pins σ H s) (ho:s'.os=s.os) (u:Un (uI X.stack) ch H H' s.heap s'.heap) (hok:iR X.prog X.w H' s'.heap) (hg:AllBare s'.gens)
  (hch:∀ b∈ch,(b∈X.ex∨X.s₀.heap.get? b=none)/\b≠X.env.locals/\(∀ x c,X.env.cells.lookup x=some c->c≠b)/\∀ p∈X.pn++pins,p.1≠b):Inv X pins σ H' s':=by
 obtain⟨h',g',d',t',o'⟩:=s'
 have e:o'=s.os:=ho
 subst e
 exact I.call (g':=g') (t':=t') (d':=d') u hok hg hch
end
abbrev XK:=Value->Option Addr->Hp->Prop
abbrev St:=List (Option V)
abbrev VK:=V->Hp->Prop
abbrev TE:=St->Hp->VK->Prop
abbrev TT:=St->Hp->(Bool->Hp->Prop)->Prop
abbrev TA:=St->Hp->(List V->Hp->Prop)->Prop
structure jI where
 nx:St->Hp->Prop
 rt:VK
 bk:St->Hp->Prop:=fun _ _=>False
 ct:St->Hp->Prop:=fun _ _=>False
abbrev TS:=jI->St->Hp->Prop
def EP (X:Cx) (pins:List (Addr×Obj)) (σ:St) (Q:VK) (u:Value) (s':Shared):Prop:=∃ v H',Inv X pins σ H' s'/\aZ v u/\Q v H'
def TP (X:Cx) (pins:List (Addr×Obj)) (σ:St) (Q:Bool->Hp->Prop) (b:Bool) (s':Shared):Prop:=∃ H',Inv X pins σ H' s'/\Q b H'
def AP (X:Cx) (pins:List (Addr×Obj)) (σ:St) (Q:List V->Hp->Prop) (us:List Value) (s':Shared):Prop:=∃ vs H',Inv X pins σ H' s'/\aX vs us/\Q vs H'
def SP (X:Cx) (pins:List (Addr×Obj)) (D:jI) (f:Flow) (s':Shared):Prop:=
 match f with
 | .next=>∃ σ' H',Inv X pins σ' H' s'/\D.nx σ' H'
 | .brk=>∃ σ' H',Inv X pins σ' H' s'/\D.bk σ' H'
 | .cont=>∃ σ' H',Inv X pins σ' H' s'/\D.ct σ' H'
 | .ret u=>∃ v σ' H',Inv X pins σ' H' s'/\aZ v u/\D.rt v H'
def PE (X:Cx) (e:Expr) (t:TE):Prop:=
 ∀ (pins:List (Addr×Obj)) (s:Shared) (σ:St) (H:Hp) (Q:VK),Inv X pins σ H s->t σ H Q->wpAny (model X.prog X.w) X.A (eval e X.env) (EP X pins σ Q) X.xe s
def PT (X:Cx) (e:Expr) (t:TT):Prop:=
 ∀ (pins:List (Addr×Obj)) (s:Shared) (σ:St) (H:Hp) (Q:Bool->Hp->Prop),Inv X pins σ H s->t σ H Q->wpAny (model X.prog X.w) X.A (isTrue e X.env (eval e X.env)) (TP X pins σ Q) X.xe s
def PW (X:Cx) (e:Expr) (t:TT):Prop:=
 ∀ (whole:Sem Value) (pins:List (Addr×Obj)) (s:Shared) (σ:St) (H:Hp) (Q:Bool->Hp->Prop),Inv X pins σ H s->t σ H Q->wpAny (model X.prog X.w) X.A (isTrue e X.env whole) (TP X pins σ Q) X.xe s
theorem PW.pt {X:Cx} {e:Expr} {t:TT} (h:PW X e t):PT X e t:=h _
def PA (X:Cx) (es:List Expr) (t:TA):Prop:=
 ∀ (pos:Pos) (pins:List (Addr×Obj)) (s:Shared) (σ:St) (H:Hp) (Q:List V->Hp->Prop),Inv X pins σ H s->t σ H Q->wpAny (model X.prog X.w) X.A (spliced (backTo pos (starEach es X.env))) (AP X pins σ Q) X.xe s
def PS (X:Cx) (st:Stmt) (t:TS):Prop:=
 ∀ (pins:List (Addr×Obj)) (s:Shared) (σ:St) (H:Hp) (D:jI),Inv X pins σ H s->t D σ H->wpAny (model X.prog X.w) X.A (exec st X.env) (SP X pins D) X.xe s
def tK (X:Cx) (st:List Stmt) (t:TS):Prop:=
 ∀ (pins:List (Addr×Obj)) (s:Shared) (σ:St) (H:Hp) (D:jI),Inv X pins σ H s->t D σ H->wpAny (model X.prog X.w) X.A (execs st X.env) (SP X pins D) X.xe s
theorem bX {α:Type} {t:Sem α} {Q Q':α->Shared->Prop} {M:Model} {A:Around} {E:Value->Shared->Prop} {s:Shared} (h:wpAny M A t Q E s) (hQ:∀ a s,Q a s->Q' a s):wpAny M A t Q' E s:=wpAny_mono h hQ fun _ _ x=>x
end L2
namespace L2
open PySem PySem.Spec PyProof.Rows
section
variable {X:Cx}
inductive Jw (σ:St) (i:Nat) (Q:V->Prop):Prop where
 | mk (v:V) (e:σ[i]?=some (some v)) (k:Q v):Jw σ i Q
inductive Hb (x:V) (Q:Bool->Prop):Prop where
 | mk (c:Bool) (e:x=.bl c) (k:Q c):Hb x Q
inductive Lb (x:V) (Q:Int->Prop):Prop where
 | mk (i:Int) (e:x=.int i) (k:Q i):Lb x Q
inductive Jy (x y:V) (Q:Int->Int->Prop):Prop where
 | mk (i j:Int) (e:x=.int i) (f:y=.int j) (k:Q i j):Jy x y Q
inductive Mq (x y:V) (C Q:Int->Int->Prop):Prop where
 | mk (i j:Int) (e:x=.int i) (f:y=.int j) (c:C i j) (k:Q i j):Mq x y C Q
def D6 (i:Nat):TE:=fun σ H Q=>Jw σ i fun v=>Q v H
def tC (v:V):TE:=fun _ H Q=>Q v H
theorem Fg {i:Nat} {x:Str} {pos:Pos} (hN:X.N[i]?=some x) (hv:Jh X.env.scope x) (hd:(x == ("__debug__" : Str))=false:=by decide) (hcd:(x == ("__classdict__" : Str))=false:=by decide):PE X (.Name x pos) (D6 i):=by
 intro pins s σ H Q I h
 obtain⟨v,e,h⟩:=h
 obtain⟨m,hn,hl⟩:=I.loc
 obtain⟨u,r,l⟩:=hl i x v hN e hv
 have fin:EP X pins σ Q u s:=⟨v,H,I,r,h⟩
 rcases l with ⟨hk,hm⟩ | ⟨hk,c,hc,hcell⟩
 ·exact wpAny_Name (wpAny_loadName_local I.ok.kind hk hn hm fin) hd
 ·rcases hk with hk | hk
  ·exact wpAny_Name (wpAny_loadName_cell I.ok.kind hk hc hcell fin) hd
  ·exact wpAny_Name (wpAny_loadName_free I.ok.kind hk hc hcell fin hcd) hd
theorem Fn {i j pos}:PE X (.Constant (.int i) j pos) (tC (.int i)):=fun _ _ _ H _ I h=>wpAny_Constant_int ⟨.int i,H,I.tok _,⟨_,rfl⟩,h⟩
theorem Iw {b j pos}:PE X (.Constant (.bool b) j pos) (tC (.bl b)):=fun _ _ _ H _ I h=>Constant_bool ⟨.bl b,H,I,rfl,h⟩
theorem Fk {j pos}:PE X (.Constant .none j pos) (tC .non):=fun _ _ _ H _ I h=>Constant_none ⟨.non,H,I,rfl,h⟩
def Gl (X:Cx) (x:Str):Prop:=X.env.kindOf x=some .globalImplicit
theorem pK {E:Value->Shared->Prop} {pins:List (Addr×Obj)} {s:Shared} {σ:St} {H:Hp} {x:Str} {u:Value} {pos:Pos} {Q:Value->Shared->Prop} (I:Inv X pins σ H s) (hg:Gl X x) (hm:X.mg x=some u) (h:Q u s)
  (hd:(x == ("__debug__" : Str))=false:=by decide):wpAny (model X.prog X.w) X.A (eval (.Name x pos) X.env) Q E s:=
 Calls.Name_function_global I.ok.kind hg (Calls.loadGlobal_global (by rw [I.ok.glob];exact I.mod.glob.keeps I.bk) hm h) hd
theorem gQ {E:Value->Shared->Prop} {pins:List (Addr×Obj)} {s:Shared} {σ:St} {H:Hp} {x:Str} {u:Value} {pos:Pos} {Q:Value->Shared->Prop} (I:Inv X pins σ H s) (hg:Gl X x) (hm:X.mg x=none) (hv:bootBuiltins x=some u) (h:Q u s)
  (hn:x ≠ "__name__" := by decide) (hd:(x == ("__debug__" : Str))=false:=by decide):wpAny (model X.prog X.w) X.A (eval (.Name x pos) X.env) Q E s:=by
 obtain⟨mb,h1,h2⟩:=I.mod.blt
 exact Calls.Name_function_global I.ok.kind hg (Calls.loadGlobal_builtin (by rw [I.ok.glob];exact I.mod.glob.keeps I.bk) hm (by rw [I.ok.blt];exact h1.keeps I.bk) ((h2 x hn).trans hv) h) hd
theorem Cc {x:Str} {v:V} {u:Value} {pos:Pos} (hg:Gl X x) (hm:X.mg x=some u) (r:aZ v u) (hd:(x == ("__debug__" : Str))=false:=by decide):PE X (.Name x pos) (tC v):=
 fun _ _ _ H _ I h=>pK I hg hm ⟨v,H,I,r,h⟩ hd
theorem Cf {x:Str} {v:V} {u:Value} {pos:Pos} (hg:Gl X x) (hm:X.mg x=none) (hv:bootBuiltins x=some u) (r:aZ v u) (hn:x ≠ "__name__" := by decide) (hd:(x == ("__debug__" : Str))=false:=by decide):PE X (.Name x pos) (tC v):=
 fun _ _ _ H _ I h=>gQ I hg hm hv ⟨v,H,I,r,h⟩ hn hd
def JL (ta tb:TE) (k:Int->Int->Hp->Prop):St->Hp->Prop:=fun σ H=>ta σ H fun x H1=>tb σ H1 fun y H2=>∃ i j,x=.int i/\y=.int j/\k i j H2
def MR (ta tb:TE):TE:=fun σ H Q=>JL ta tb (fun i j H2=>Q (.int (i+j)) H2) σ H
def MH (ta tb:TE):TE:=fun σ H Q=>JL ta tb (fun i j H2=>Q (.int (i - j)) H2) σ H
def ML (ta tb:TE):TE:=fun σ H Q=>JL ta tb (fun i j H2=>(-(2 ^ 64) < i/\i < 2 ^ 64)/\Q (.int (i * j)) H2) σ H
variable {a b:Expr} {ta tb:TE} {pos:Pos}
def PC (X:Cx) (op:CmpOp) (a b:Expr) (t:TE):Prop:=
 ∀ (pins:List (Addr×Obj)) (s:Shared) (σ:St) (H:Hp) (Q:VK),Inv X pins σ H s->t σ H Q→
  wpAny (model X.prog X.w) X.A (eval a X.env) (fun v s₁=>wpAny (model X.prog X.w) X.A (eval b X.env) (fun u s₂=>wpAny (model X.prog X.w) X.A (compareOp op v u) (EP X pins σ Q) X.xe s₂) X.xe s₁) X.xe s
def vy (p:Int->Int->Bool) (ta tb:TE):TE:=fun σ H Q=>JL ta tb (fun i j H2=>Q (.bl (p i j)) H2) σ H
abbrev NP:TE->TE->TE:=vy fun i j=>decide (i < j)
abbrev NQ:TE->TE->TE:=vy fun i j=>decide (i≤j)
abbrev NS:TE->TE->TE:=vy fun i j=>decide (j < i)
abbrev NT:TE->TE->TE:=vy fun i j=>decide (j≤i)
abbrev MN:TE->TE->TE:=vy fun i j=>decide (i=j)
abbrev MK:TE->TE->TE:=vy fun i j=>!decide (i=j)
def MM (ta:TE):TE:=fun σ H Q=>ta σ H fun x H1=>Q (.bl (decide (x=.non))) H1
def Lu (ta:TE):TE:=fun σ H Q=>ta σ H fun x H1=>Q (.bl (!decide (x=.non))) H1
def tB (t:TE):TT:=fun σ H Q=>t σ H fun x H1=>Hb x fun c=>Q c H1
theorem E3 {e:Expr} {t:TE} (h:PE X e t) (he:∀ whole,isTrue e X.env whole=(do let v ← whole;standAt e.pos;holding [v] (truthy v)):=by intro _;rfl):PT X e (tB t):=by
 intro pins s σ H Q I hw
 refine isTrue_plain (bX (h pins s σ H _ I hw) fun v s1 ⟨x,H1,I1,r1,q1⟩=>?_) (he _)
 obtain⟨d,rfl,q⟩:=q1
 cases r1
 exact wpAny_truthy_bool ⟨H1,I1,q⟩
variable {tA tB':TT} {eh:List Expr}
def Hx (t u:TT):TT:=fun σ H Q=>t σ H fun c H1=>if c=true then u σ H1 Q else Q false H1
def Lr (t u:TT):TT:=fun σ H Q=>t σ H fun c H1=>if c=true then Q true H1 else u σ H1 Q
def Hr (t:TT):TT:=fun σ H Q=>t σ H fun c H1=>Q (!c) H1
theorem BR (ha:PT X a tA):PW X (.BoolOp .And [a] pos) tA:=by
 intro wh pins s σ H Q I h
 refine isTrue_and (bX (ha pins s σ H Q I h) fun c s1 e=>?_)
 cases c with
 | true=>exact isTrue_and_nil e
 | false=>exact e
theorem EZ (ha:PT X a tA):PW X (.BoolOp .Or [a] pos) tA:=by
 intro wh pins s σ H Q I h
 refine isTrue_or (bX (ha pins s σ H Q I h) fun c s1 e=>?_)
 cases c with
 | false=>exact isTrue_or_nil e
 | true=>exact e
theorem E1 (ha:PT X a tA) (hb:PW X (.BoolOp .And (b :: eh) pos) tB'):PW X (.BoolOp .And (a :: b :: eh) pos) (Hx tA tB'):=by
 intro wh pins s σ H Q I h
 refine isTrue_and (bX (ha pins s σ H _ I h) fun c s1 ⟨H1,I1,q1⟩=>?_)
 cases c with
 | true=>exact hb wh pins s1 σ H1 Q I1 q1
 | false=>exact⟨H1,I1,q1⟩
theorem Io (ha:PT X a tA) (hb:PW X (.BoolOp .Or (b :: eh) pos) tB'):PW X (.BoolOp .Or (a :: b :: eh) pos) (Lr tA tB'):=by
 intro wh pins s σ H Q I h
 refine isTrue_or (bX (ha pins s σ H _ I h) fun c s1 ⟨H1,I1,q1⟩=>?_)
 cases c with
 | true=>exact⟨H1,I1,q1⟩
 | false=>exact hb wh pins s1 σ H1 Q I1 q1
theorem E4 (ha:PT X a tA):PT X (.UnaryOp .Not a pos) (Hr tA):=by
 intro pins s σ H Q I h
 exact isTrue_not (ha pins s σ H (fun c H1=>Q (!c) H1) I h)
def Ds (ta tb:TE):TE:=fun σ H Q=>ta σ H fun x H1=>Hb x fun c=>if c=true then tb σ H1 Q else Q (.bl false) H1
def MJ (ta tb:TE):TE:=fun σ H Q=>ta σ H fun x H1=>Hb x fun c=>if c=true then Q (.bl true) H1 else tb σ H1 Q
def Dm (ta:TE):TE:=fun σ H Q=>ta σ H fun x H1=>Hb x fun c=>Q (.bl (!c)) H1
theorem Fi {op} {t:TE} (h:PE X a t):PE X (.BoolOp op [a] pos) t:=fun pins s σ H Q I hw=>BoolOp_one (h pins s σ H Q I hw)
theorem Fp (ha:PE X a ta) (hb:PE X (.BoolOp .And (b :: eh) pos) tb):PE X (.BoolOp .And (a :: b :: eh) pos) (Ds ta tb):=by
 intro pins s σ H Q I h
 refine BoolOp_and (bX (ha pins s σ H _ I h) fun v s1 ⟨x,H1,I1,r1,q1⟩=>?_)
 obtain⟨c,rfl,q1⟩:=q1
 cases r1
 refine wpAny_truthy_bool ?_
 cases c with
 | true=>exact hb pins s1 σ H1 Q I1 q1
 | false=>exact⟨.bl false,H1,I1,rfl,q1⟩
theorem Fj (ha:PE X a ta):PE X (.UnaryOp .Not a pos) (Dm ta):=by
 intro pins s σ H Q I h
 refine UnaryOp_ (bX (ha pins s σ H _ I h) fun v s1 ⟨x,H1,I1,r1,q1⟩=>?_)
 obtain⟨c,rfl,q1⟩:=q1
 cases r1
 exact not_of (wpAny_truthy_bool ⟨.bl (!c),H1,I1,rfl,q1⟩)
def Lv (t:TT) (ta tb:TE):TE:=fun σ H Q=>t σ H fun c H1=>if c=true then ta σ H1 Q else tb σ H1 Q
theorem zF {c:Expr} (hc:PT X c tA) (ha:PE X a ta) (hb:PE X b tb):PE X (.IfExp c a b pos) (Lv tA ta tb):=by
 intro pins s σ H Q I h
 refine wpAny_IfExp (bX (hc pins s σ H _ I h) fun d s1 ⟨H1,I1,q1⟩=>?_)
 cases d with
 | true=>exact ha pins s1 σ H1 Q I1 q1
 | false=>exact hb pins s1 σ H1 Q I1 q1
end
end L2
namespace L2
open PySem PySem.Spec PyProof.Rows
def aU (K:PySem.W.Frag) (H:Hp) (a:Addr) (xs:List V):Prop:=
 Rd H a (.lst xs)∨
  ∃ (o:Obj) (its:Array Value) (n:Nat),K.lookup a=some o/\o.cls=.type "list" /\ o.dict=none/\o.data=.seq its n/\its.size≤sizeLine/\aX xs its.toList
def bt (K:PySem.W.Frag) (H:Hp) (a:Addr) (xs:List V):Prop:=
 Rd H a (.tup xs)∨
  ∃ (o:Obj) (its:Array Value) (n:Nat),K.lookup a=some o/\o.cls=.type "tuple" /\ o.data=.seq its n/\its.size≤sizeLine/\aX xs its.toList
def KW:Value->Option V
 | .none=>some .non
 | .bool b=>some (.bl b)
 | .int i _=>some (.int i)
 | .str x _=>some (.str x)
 | .bytes b _=>some (.byt b)
 | .float b _=>some (.flt b)
 | .ref a=>some (.ref a)
 | .type n=>some (.ty n)
 | _=>none
theorem aZ.abs {x:V} {u:Value} (r:aZ x u):KW u=some x:=by
 cases x with
 | non=>cases r;rfl
 | bl _=>cases r;rfl
 | int _=>obtain⟨t,rfl⟩:=r;rfl
 | str _=>obtain⟨t,rfl⟩:=r;rfl
 | byt _=>obtain⟨t,rfl⟩:=r;rfl
 | flt _=>obtain⟨t,rfl⟩:=r;rfl
 | ref _=>cases r;rfl
 | ty _=>cases r;rfl
theorem aZ.inj {x y:V} {u:Value} (r:aZ x u) (q:aZ y u):x=y:=Option.some.inj (r.abs.symm.trans q.abs)
theorem aX.inj:∀ {xs ys:List V} {us:List Value},aX xs us->aX ys us->xs=ys
 | _,_,_,.nil,.nil=>rfl
 | _,_,_,.cons r t,.cons r' t'=>by rw [r.inj r',aX.inj t t']
section
variable {X:Cx} {pins:List (Addr×Obj)} {σ:St} {H:Hp} {s:Shared} {a:Addr} {xs ys:List V}
theorem aU.of {K:PySem.W.Frag} (h:H a=some (.lst xs)):aU K H a xs:=.inl (.inl h)
theorem bt.of {K:PySem.W.Frag} (h:H a=some (.tup xs)):bt K H a xs:=.inl (.inl h)
theorem Inv.list (I:Inv X pins σ H s) (h:aU X.K H a xs):∃ its:List Value,aX xs its/\PlainL s.heap a its.toArray/\xs.length≤sizeLine:=by
 rcases h with h | ⟨o,its,n,hk,hc,hd,hs,hz,r⟩
 ·obtain⟨z,its,n,r,e⟩:=h.ok I.hok
  exact⟨its,r,⟨_,n,e,rfl,rfl,rfl⟩,z⟩
 ·refine⟨its.toList,r,⟨o,n,I.kIn a o hk,hc,hd,by simpa using hs⟩,?_⟩
  have e:=r.length
  simp only [Array.length_toList] at e
  omega
theorem Inv.tuple (I:Inv X pins σ H s) (h:bt X.K H a xs):∃ its:List Value,aX xs its/\IsTup s.heap a its.toArray/\xs.length≤sizeLine:=by
 rcases h with h | ⟨o,its,n,hk,hc,hs,hz,r⟩
 ·obtain⟨z,its,r,p⟩:=h.ok I.hok
  exact⟨its,r,p,z⟩
 ·refine⟨its.toList,r,⟨o,I.kIn a o hk,hc,n,by simpa using hs⟩,?_⟩
  have e:=r.length
  simp only [Array.length_toList] at e
  omega
theorem Inv.list_inj (I:Inv X pins σ H s) (h:aU X.K H a xs) (h':aU X.K H a ys):xs=ys:=by
 obtain⟨its,r,⟨o,n,e,_,_,d⟩,_⟩:=I.list h
 obtain⟨its',r',⟨o',n',e',_,_,d'⟩,_⟩:=I.list h'
 rw [e] at e';cases e'
 rw [d] at d'
 injection d' with d1 _
 have:its=its':=by simpa using congrArg Array.toList d1
 subst this
 exact r.inj r'
theorem Inv.tuple_inj (I:Inv X pins σ H s) (h:bt X.K H a xs) (h':bt X.K H a ys):xs=ys:=by
 obtain⟨its,r,⟨o,e,_,n,d⟩,_⟩:=I.tuple h
 obtain⟨its',r',⟨o',e',_,n',d'⟩,_⟩:=I.tuple h'
 rw [e] at e';cases e'
 rw [d] at d'
 injection d' with d1 _
 have:its=its':=by simpa using congrArg Array.toList d1
 subst this
 exact r.inj r'
end
abbrev Cx.wish (X:Cx) (E:Value->Shared->Prop):Cx:={ X with xe:=E }
abbrev Cx.nox (X:Cx):Cx:=X.wish fun _ _=>False
theorem Cx.Ok.wish {X:Cx} (ok:X.Ok) (E:Value->Shared->Prop):(X.wish E).Ok:=
 ⟨ok.mod,ok.kind,ok.glob,ok.blt,ok.above,ok.inj,ok.has,ok.cab,ok.hd,ok.frames,ok.stk,ok.exf,ok.bs,ok.bsz,ok.noex,ok.exfs,ok.funs,ok.frf⟩
theorem Cx.Ok.unwish {X:Cx} {E:Value->Shared->Prop} (ok:(X.wish E).Ok):X.Ok:=
 ⟨ok.mod,ok.kind,ok.glob,ok.blt,ok.above,ok.inj,ok.has,ok.cab,ok.hd,ok.frames,ok.stk,ok.exf,ok.bs,ok.bsz,ok.noex,ok.exfs,ok.funs,ok.frf⟩
section
variable {X:Cx} {pins:List (Addr×Obj)} {σ:St} {H:Hp} {s:Shared} {E:Value->Shared->Prop}
theorem Inv.wish (I:Inv X pins σ H s) (E:Value->Shared->Prop):Inv (X.wish E) pins σ H s:=⟨I.ok.wish E,I.os,I.bare,I.base,I.loc,I.cell,I.free,I.freeC,I.pin,I.hok,I.len⟩
theorem Inv.unwish (I:Inv (X.wish E) pins σ H s):Inv X pins σ H s:=⟨I.ok.unwish,I.os,I.bare,I.base,I.loc,I.cell,I.free,I.freeC,I.pin,I.hok,I.len⟩
theorem SP.unwish {D:jI} {f:Flow} {s':Shared} (h:SP (X.wish E) pins D f s'):SP X pins D f s':=by
 cases f with
 | next=>obtain⟨σ',H',I,q⟩:=h;exact⟨σ',H',I.unwish,q⟩
 | brk=>obtain⟨σ',H',I,q⟩:=h;exact⟨σ',H',I.unwish,q⟩
 | cont=>obtain⟨σ',H',I,q⟩:=h;exact⟨σ',H',I.unwish,q⟩
 | ret u=>obtain⟨v,σ',H',I,r,q⟩:=h;exact⟨v,σ',H',I.unwish,r,q⟩
theorem tK.nox {st:List Stmt} {t:TS} (h:tK X.nox st t):tK X st t:=fun pins s σ H D I hw=>
 wpAny_mono (h pins s σ H D (I.wish _) hw) (fun _ _ q=>q.unwish) fun _ _ z=>False.elim z
end
section
variable {X:Cx} {st:Stmt} {eh:List Stmt} {t u:TS} {e:Expr} {te:TE} {pos:Pos}
def Dn:TS:=fun D σ H=>D.nx σ H
def D7 (t u:TS):TS:=fun D σ H=>t { D with nx:=u D } σ H
theorem BY:tK X [] Dn:=fun _ _ σ H _ I h=>wpAny_execs_nil ⟨σ,H,I,h⟩
theorem zf (h1:PS X st t) (h2:tK X eh u):tK X (st :: eh) (D7 t u):=by
 intro pins s σ H D I h
 refine wpAny_execs_cons (bX (h1 pins s σ H { D with nx:=u D } I h) fun f s1 q=>?_)
 cases f with
 | next=>
  obtain⟨σ',H',I',q⟩:=q
  exact h2 pins s1 σ' H' D I' q
 | ret v=>exact q
 | brk=>exact q
 | cont=>exact q
theorem BX (h1:PS X st t):tK X [st] t:=by
 intro pins s σ H D I h
 refine wpAny_execs_cons (bX (h1 pins s σ H D I h) fun f s1 q=>?_)
 cases f with
 | next=>exact wpAny_execs_nil q
 | ret v=>exact q
 | brk=>exact q
 | cont=>exact q
def Kg:TS:=fun D σ H=>D.bk σ H
def Dq:TS:=fun D σ H=>D.ct σ H
theorem qJ:PS X (.Continue pos) Dq:=fun _ _ σ H _ I h=>wpAny_Continue ⟨σ,H,I,h⟩
theorem Inv.quiet {pins:List (Addr×Obj)} {σ:St} {H:Hp} {s:Shared} (I:Inv X pins σ H s):interactive X.env=false:=by simp [interactive,I.ok.kind]
def Dp (te:TE):TS:=fun D σ H=>te σ H fun _ H1=>D.nx σ H1
theorem BZ (he:PE X e te) (hs:swapsWith e none pos.line X.env=pure false:=by rfl):PS X (.Expr e pos) (Dp te):=by
 intro pins s σ H D I h
 exact wpAny_Expr_any (bX (he pins s σ H _ I h) fun v s1 ⟨x,H1,I1,r1,q1⟩=>⟨σ,H1,I1,q1⟩) I.quiet hs
def Ho (te:TE):TS:=fun D σ H=>te σ H D.rt
theorem E6 (he:PE X e te):PS X (.Return (some e) pos) (Ho te):=by
 intro pins s σ H D I h
 exact wpAny_Return_some (bX (he pins s σ H _ I h) fun v s1 ⟨x,H1,I1,r1,q1⟩=>⟨x,σ,H1,I1,r1,q1⟩)
def Lq:TS:=fun D _ H=>D.rt .non H
def Ht (c:TT) (t u:TS):TS:=fun D σ H=>c σ H fun b H1=>if b=true then t D σ H1 else u D σ H1
theorem Ip {c:Expr} {a b:List Stmt} {tc:TT} (hc:PT X c tc) (ha:tK X a t) (hb:tK X b u):PS X (.If c a b pos) (Ht tc t u):=by
 intro pins s σ H D I h
 refine wpAny_If (bX (hc pins s σ H _ I h) fun d s1 ⟨H1,I1,q1⟩=>?_)
 cases d with
 | true=>exact ha pins s1 σ H1 D I1 q1
 | false=>exact hb pins s1 σ H1 D I1 q1
def xm:TS:=fun _ _ _=>False
theorem zh:PS X st xm:=fun _ _ _ _ _ _ h=>h.elim
end
abbrev TG:=V->St->Hp->(St->Hp->Prop)->Prop
abbrev wL:=List V->St->Hp->(St->Hp->Prop)->Prop
def PG (X:Cx) (target:Expr) (t:TG):Prop:=
 ∀ (pins:List (Addr×Obj)) (s:Shared) (σ:St) (H:Hp) (v:V) (u:Value) (Q:St->Hp->Prop),Inv X pins σ H s->aZ v u->t v σ H Q→
  wpAny (model X.prog X.w) X.A (assign target X.env u) (fun _ s'=>∃ σ' H',Inv X pins σ' H' s'/\Q σ' H') X.xe s
def G9 (X:Cx) (ts:List Expr) (t:wL):Prop:=
 ∀ (pins:List (Addr×Obj)) (s:Shared) (σ:St) (H:Hp) (vs:List V) (us:List Value) (Q:St->Hp->Prop),Inv X pins σ H s->aX vs us->t vs σ H Q→
  wpAny (model X.prog X.w) X.A (assignInOrder ((assignEach ts X.env).map (·.2)) us) (fun _ s'=>∃ σ' H',Inv X pins σ' H' s'/\Q σ' H') X.xe s
abbrev AT:=V->V->V->Hp->(Hp->Prop)->Prop
def GH (X:Cx) (t:AT):Prop:=
 ∀ (pins:List (Addr×Obj)) (s:Shared) (σ:St) (H:Hp) (o i v:V) (ov iv u:Value) (Q:Hp->Prop),Inv X pins σ H s->aZ o ov->aZ i iv->aZ v u->t o i v H Q→
  wpAny (model X.prog X.w) X.A (setItem ov iv u) (fun _ s'=>∃ H',Inv X pins σ H' s'/\Q H') X.xe s
abbrev G5:=V->V->Hp->VK->Prop
def K4 (X:Cx) (op:Operator) (t:G5):Prop:=
 ∀ (pins:List (Addr×Obj)) (s:Shared) (σ:St) (H:Hp) (x y:V) (v u:Value) (Q:VK),Inv X pins σ H s->aZ x v->aZ y u->t x y H Q→
  wpAny (model X.prog X.w) X.A (inplaceOp op v u) (EP X pins σ Q) X.xe s
section
variable {X:Cx} {pos:Pos}
def ke (i:Nat):TG:=fun v σ H Q=>Q (σ.set i (some v)) H
theorem B9 {i:Nat} {x:Str} (hN:X.N.Nodup) (hi:X.N[i]?=some x) (hx:wX X.env.scope x) (hf:X.fn x=true∨X.env.scope.names.lookup x=some .local:=by first | exact .inl rfl | exact .inr rfl | assumption):PG X (.Name x pos) (ke i):=by
 intro pins s σ H v u Q I r h
 exact wpAny_assign_Name (fJ I hN hi hx r (fun s' I'=>⟨_,H,I',h⟩) hf)
def Ja:wL:=fun vs σ H Q=>vs=[]/\Q σ H
def DN (t:TG) (u:wL):wL:=fun vs σ H Q=>∃ v r,vs=v :: r/\t v σ H fun σ' H'=>u r σ' H' Q
theorem B7:G9 X [] Ja:=by
 intro pins s σ H vs us Q I r h
 obtain⟨e,h⟩:=h
 subst e
 cases r
 exact assignInOrder_nil ⟨σ,H,I,h⟩
theorem zr {e:Expr} {es:List Expr} {t:TG} {u:wL} (h1:PG X e t) (h2:G9 X es u)
  (hs:(assignEach (e :: es) X.env).map (·.2)=assign e X.env :: (assignEach es X.env).map (·.2):=by rfl):G9 X (e :: es) (DN t u):=by
 intro pins s σ H vs us Q I r h
 obtain⟨v,vr,e1,h⟩:=h
 subst e1
 cases r with
 | cons r rr=>
  rw [hs]
  refine assignInOrder_cons (bX (h1 pins s σ H _ _ _ I r h) fun _ s1 ⟨σ1,H1,I1,q1⟩=>?_)
  exact h2 pins s1 σ1 H1 _ _ Q I1 rr q1
def CM (K:PySem.W.Frag) (n:Nat) (t:wL):TG:=fun v σ H Q=>∃ a xs,v=.ref a/\bt K H a xs/\xs.length=n/\t xs σ H Q
theorem zu {es:List Expr} {k:Nat} {t:wL} {n:Nat} (hc:X.calm=true) (h:G9 X es t)
  (hn:(assignEach es X.env).length=n:=by rfl) (hst:(assignEach es X.env).findIdx? (·.1)=none:=by rfl):PG X (.Tuple es k pos) (CM X.K n t):=by
 intro pins s σ H v u Q I r hw
 obtain⟨a,xs,e1,hq,hl,hw⟩:=hw
 subst e1
 cases r
 obtain⟨its,rv,ht,hz⟩:=I.tuple hq
 refine assign_Tuple_tuple (I.ok.hd hc) ht (by simp [hn,← hl,rv.length]) hst fun h' hx=>?_
 have I1:Inv X pins σ H { s with heap:=h' }:=I.kept (t':=s.toks) fun b o e=>hx b o (Nat.ne_of_lt (Heap.lt_size e)) e
 exact h pins _ σ H xs _ Q I1 (by simpa using rv) hw
def I0 (to ti:TE) (t:AT):TG:=fun v σ H Q=>to σ H fun o H1=>ti σ H1 fun i H2=>t o i v H2 fun H3=>Q σ H3
theorem Ff {o i:Expr} {to ti:TE} {t:AT} (ho:PE X o to) (hi:PE X i ti) (hs:GH X t)
  (ha:∀ v,assign (.Subscript o i pos) X.env v=(do
   let ov ← holding [v] (eval o X.env)
   let iv ← holding [v,ov] (eval i X.env)
   standAt pos
   holding [v,ov,iv] (setItem ov iv v)
   release [v,ov,iv] []):=by intro _;rfl):PG X (.Subscript o i pos) (I0 to ti t):=by
 intro pins s σ H v u Q I r h
 rw [ha]
 refine wpAny_bind (wpAny_holding (bX (ho pins s σ H _ I h) fun ov s1 ⟨x,H1,I1,r1,q1⟩=>?_))
 refine wpAny_bind (wpAny_holding (bX (hi pins s1 σ H1 _ I1 q1) fun iv s2 ⟨y,H2,I2,r2,q2⟩=>?_))
 refine wpAny_bind (wpAny_standAt (wpAny_bind (wpAny_holding (bX (hs pins s2 σ H2 x y v ov iv u _ I2 r1 r2 r q2) fun _ s3 ⟨H3,I3,q3⟩=>?_))))
 exact wpAny_release ⟨σ,H3,I3,q3⟩
def qg (te:TE) (g:TG):TS:=fun D σ H=>te σ H fun x H1=>g x σ H1 D.nx
theorem Fb {tg e:Expr} {te:TE} {g:TG} (he:PE X e te) (hg:PG X tg g) (hs:swapsWithSole [tg] e pos.line X.env=pure false:=by rfl) (hw:swappedStores [tg] e X.env=pure none:=by rfl)
  (h1:(assignEach [tg] X.env).map (·.2)=[assign tg X.env]:=by rfl):PS X (.Assign [tg] e pos) (qg te g):=by
 intro pins s σ H D I h
 refine wpAny_Assign_stores (bX (he pins s σ H _ I h) fun v s1 ⟨x,H1,I1,r1,q1⟩=>?_) hs hw
 rw [h1]
 exact bX (hg pins s1 σ H1 x v _ I1 r1 q1) fun _ s2 q=>q
theorem E5 {i:Nat} {x:Str} {e:Expr} {te:TE} {pos':Pos} (hN:X.N.Nodup) (hi:X.N[i]?=some x) (hx:wX X.env.scope x) (he:PE X e te) (hs:swapsWith e (some (.Name x pos')) pos.line X.env=pure false:=by rfl) (hf:X.fn x=true∨X.env.scope.names.lookup x=some .local:=by first | exact .inl rfl | exact .inr rfl | assumption) :
  PS X (.Assign [.Name x pos'] e pos) (qg te (ke i)):=by
 intro pins s σ H D I h
 refine wpAny_Assign_Name (bX (he pins s σ H _ I h) fun v s1 ⟨y,H1,I1,r1,q1⟩=>?_) hs
 exact fJ I1 hN hi hx r1 (fun s2 I2=>⟨_,H1,I2,q1⟩) hf
def Hq (i j:Nat) (ta:TA):TS:=fun D σ H=>ta σ H fun vs H1=>∃ v w,vs=[v,w]/\D.nx ((σ.set i (some v)).set j (some w)) H1
theorem E7 {i j:Nat} {x y:Str} {a b:Expr} {ta:TA} {px py pt:Pos} {kt k2 pt2} (hc:X.calm=true) (hN:X.N.Nodup) (hi:X.N[i]?=some x) (hj:X.N[j]?=some y) (hij:i≠j)
  (hx:X.env.scope.names.lookup x=some .local) (hy:X.env.scope.names.lookup y=some .local) (ha:PA X [a,b] ta)
  (hw:swappedStores [.Tuple [.Name x px,.Name y py] kt pt] (.Tuple [a,b] k2 pt2) X.env=pure (some [x,y]))
  (hs:swapsWithSole [.Tuple [.Name x px,.Name y py] kt pt] (.Tuple [a,b] k2 pt2) pos.line X.env=pure false:=by rfl) :
  PS X (.Assign [.Tuple [.Name x px,.Name y py] kt pt] (.Tuple [a,b] k2 pt2) pos) (Hq i j ta):=by
 intro pins s σ H D I h
 rw [exec_Assign_arm]
 refine wpAny_bind (wpAny_standAt ?_)
 rw [hs]
 refine wpAny_bind (wpAny_pure ?_)
 rw [if_neg (by decide)]
 refine wpAny_bind (Tuple_ (bX (ha _ pins s σ H _ I h) fun us s1 ⟨vs,H1,I1,r1,q1⟩=>?_))
 obtain⟨v,w,e1,q1⟩:=q1
 subst e1
 obtain⟨u1,u2,rfl,rv,rw'⟩:∃ u1 u2,us=[u1,u2]/\aZ v u1/\aZ w u2:=by
  cases r1 with
  | cons p q=>
   cases q with
   | cons p' q'=>
    cases q'
    exact⟨_,_,rfl,p,p'⟩
 refine wpAny_newObj_type ?_ oo
 have I2:Inv X pins σ H1 { s1 with heap:=s1.heap.push { cls:=.type "tuple", data:=.seq [u1,u2].toArray } }:=I1.kept (t':=s1.toks) fun b o e=>Heap.get?_push_of_some _ e
 rw [hw]
 refine wpAny_bind (wpAny_pure ?_)
 show wpAny (model X.prog X.w) X.A (do rule "assign.swapped-stores";let items ← unpackItems (.ref s1.heap.objs.size) 2 none;assignInOrder [fun v=>bindName X.env y v,fun v=>bindName X.env x v] items.reverse;pure Flow.next) _ _ _
 refine wpAny_bind (wpAny_rule (wpAny_bind (unpackItems_tuple (items:=#[u1,u2]) (I.ok.hd hc) (IsTup.new s1.heap _) fun h' hx'=>?_)))
 have I3:=I2.kept (h':=h') (t':=s1.toks) fun b o e=>hx' b o (Nat.ne_of_lt (Heap.lt_size e)) e
 show wpAny _ _ (assignInOrder [fun v=>bindName X.env y v,fun v=>bindName X.env x v] [u2,u1] >>= fun _=>pure Flow.next) _ _ _
 refine wpAny_bind (assignInOrder_cons (wpAny_bindName (fJ I3 hN hj (.inl hy) rw' (fun s2 I4=>?_) (.inr hy))))
 refine assignInOrder_cons (wpAny_bindName (fJ I4 hN hi (.inl hx) rv (fun s3 I5=>assignInOrder_nil (wpAny_pure ?_)) (.inr hx)))
 rw [List.set_comm _ _ (Ne.symm hij)] at I5
 exact⟨_,H1,I5,q1⟩
def Hw (i:Nat) (te:TE) (ti:G5):TS:=fun D σ H=>∃ x,σ[i]?=some (some x)/\te σ H fun y H1=>ti x y H1 fun z H2=>D.nx (σ.set i (some z)) H2
theorem Fa {i:Nat} {x:Str} {e:Expr} {te:TE} {op:Operator} {ti:G5} {pos':Pos} (hN:X.N.Nodup) (hi:X.N[i]?=some x) (hx:wX X.env.scope x) (he:PE X e te) (ho:K4 X op ti) (hf:X.fn x=true∨X.env.scope.names.lookup x=some .local:=by first | exact .inl rfl | exact .inr rfl | assumption) :
  PS X (.AugAssign (.Name x pos') op e pos) (Hw i te ti):=by
 intro pins s σ H D I h
 obtain⟨v,e1,h⟩:=h
 obtain⟨m,hn,hl⟩:=I.loc
 have vis:Jh X.env.scope x:=by rcases hx with k | k;exact .inl k;exact .inr (.inl k)
 obtain⟨u,r,l⟩:=hl i x v hi e1 vis
 refine wpAny_AugAssign_Name ?_
 have go:wpAny (model X.prog X.w) X.A (eval e X.env) (fun w s₂=>wpAny (model X.prog X.w) X.A (inplaceOp op u w) (fun r s₃=>wpAny (model X.prog X.w) X.A (storeName X.env x r) (fun _=>SP X pins D .next) X.xe s₃) X.xe s₂) X.xe s:=by
  refine bX (he pins s σ H _ I h) fun w s1 ⟨y,H1,I1,r1,q1⟩=>?_
  refine bX (ho pins s1 σ H1 v y u w _ I1 r r1 q1) fun z s2 ⟨zv,H2,I2,r2,q2⟩=>?_
  exact fJ I2 hN hi hx r2 (fun s3 I3=>⟨_,H2,I3,q2⟩) hf
 rcases l with ⟨hk,hm⟩ | ⟨hk,c,hc,hcell⟩
 ·exact wpAny_loadName_local I.ok.kind hk hn hm go
 ·rcases hk with hk | hk
  ·exact wpAny_loadName_cell I.ok.kind hk hc hcell go
  ·rcases hx with k | k
   ·have:X.env.scope.names.lookup x=some .free:=hk
    rw [k] at this;cases this
   ·have:X.env.scope.names.lookup x=some .free:=hk
    rw [k] at this;cases this
def LC (to ti te:TE) (tget:V->V->Hp->VK->Prop) (tip:G5) (tset:AT):TS:=fun D σ H=>to σ H fun o H1=>ti σ H1 fun i H2=>tget o i H2 fun x H3=>te σ H3 fun y H4=>tip x y H4 fun z H5=>tset o i z H5 fun H6=>D.nx σ H6
def Nx (X:Cx) (t:V->V->Hp->VK->Prop):Prop:=
 ∀ (pins:List (Addr×Obj)) (s:Shared) (σ:St) (H:Hp) (o i:V) (ov iv:Value) (Q:VK),Inv X pins σ H s->aZ o ov->aZ i iv->t o i H Q→
  wpAny (model X.prog X.w) X.A (getItem ov iv) (EP X pins σ Q) X.xe s
def Nd (f:Int->Int->Int):G5:=fun x y H Q=>Jy x y fun i j=>Q (.int (f i j)) H
theorem Gj:K4 X .Sub (Nd fun i j=>i - j):=by
 intro pins s σ H x y v u Q I r1 r2 h
 obtain⟨i,j,e1,e2,q⟩:=h
 subst e1;subst e2
 obtain⟨t,rfl⟩:=r1
 obtain⟨t',rfl⟩:=r2
 exact isub_int ⟨.int _,H,I.tok _,⟨_,rfl⟩,q⟩
end
section
variable {X:Cx} {pos:Pos}
def xj (c:TT) (tb:TS):TS:=fun D σ H=>∃ W:Nat->St->Hp->Prop,(∃ m,W m σ H)/\∀ m σ H,W m σ H→
 c σ H fun b H1=>if b=true then ∃ N:St->Hp->Prop,(∀ σ' H',N σ' H'->∃ m',m' < m/\W m' σ' H')/\tb { D with nx:=N,ct:=N,bk:=D.nx } σ H1 else D.nx σ H1
theorem zg {c:Expr} {body:List Stmt} {tc:TT} {tb:TS} (hp:PassesOwn (model X.prog X.w) X.A X.env X.xe) (hc:PT X c tc) (hb:tK X body tb):PS X (.While c body [] pos) (xj tc tb):=by
 intro pins s σ H D I h
 obtain⟨W,⟨m0,w0⟩,turn⟩:=h
 refine wpAny_While (codeAny_whileLoop (fun n s'=>∃ σ' H',Inv X pins σ' H' s'/\W n σ' H') ?_ m0 ⟨σ,H,I,w0⟩)
 rintro n s1 ⟨σ1,H1,I1,w1⟩
 refine wpAny_passesOwn hp (bX (hc pins s1 σ1 H1 _ I1 (turn n σ1 H1 w1)) fun b s2 ⟨H2,I2,q2⟩=>?_)
 cases b with
 | true=>
  obtain⟨N,hN,q2⟩:=q2
  rw [if_pos rfl]
  refine wpAny_passesOwn hp (bX (hb pins s2 σ1 H2 _ I2 q2) fun f s3 q3=>?_)
  cases f with
  | next=>
   obtain⟨σ3,H3,I3,n3⟩:=q3
   obtain⟨m',hm,w3⟩:=hN σ3 H3 n3
   exact⟨m',hm,σ3,H3,I3,w3⟩
  | cont=>
   obtain⟨σ3,H3,I3,n3⟩:=q3
   obtain⟨m',hm,w3⟩:=hN σ3 H3 n3
   exact⟨m',hm,σ3,H3,I3,w3⟩
  | brk=>exact q3
  | ret v=>exact q3
 | false=>
  rw [if_neg Bool.false_ne_true]
  exact wpAny_execs_nil ⟨σ1,H2,I2,q2⟩
end
structure It where
 go:Nat->Hp->Prop
 yld:Nat->Hp->V->Hp->Prop
 stop:Nat->Hp->Prop
def i9 (X:Cx) (pins:List (Addr×Obj)) (H:Hp) (b:Addr):Prop:=
 H b=none/\b≠X.env.locals/\b∉X.fs/\(b∈X.ex∨X.s₀.heap.get? b=none)/\(∀ x c,X.env.cells.lookup x=some c->c≠b)/\∀ p∈X.pn++pins,p.1≠b
theorem Inv.fpOk {X:Cx} {pins:List (Addr×Obj)} {σ:St} {H H':Hp} {s:Shared} {b:Addr} (I:Inv X pins σ H s) (hb:s.heap.objs.size≤b) (hn:H' b=none):i9 X pins H' b:=by
 refine⟨hn,Nat.ne_of_gt (Nat.lt_of_lt_of_le I.lt hb),I.nofs hb,.inr (Heap.get?_none_of_le (Nat.le_trans I.sz hb)),fun x c e z=>?_,fun p hp z=>?_⟩
 ·obtain⟨v,q⟩:=I.cell x c e
  exact absurd (Nat.lt_of_lt_of_le q.lt (by rw [z];exact hb)) (Nat.lt_irrefl _)
 ·exact absurd (Nat.lt_of_lt_of_le (Heap.lt_size (I.pin p hp).1) (by rw [z];exact hb)) (Nat.lt_irrefl _)
structure tH (P:Program) (w:World) (K:PySem.W.Frag) (tg:Expr) (J:It) (fp:List Addr) (it:Addr) (tn:Nat->Heap->Prop):Prop where
 mem:it∈fp
 obj:∀ i h,tn i h->∀ b∈fp,∃ o,h.get? b=some o/\∀ v,o.data≠.cell v
 keep:∀ i h h',tn i h->(∀ b∈fp,∀ o,h.get? b=some o->h'.get? b=some o)->tn i h'
 item:∀ (X:Cx),X.prog=P->X.w=w->X.K=K->X.calm=true->∀ (i:Nat) (pins:List (Addr×Obj)) (s:Shared) (σ:St) (H:Hp) (E:Value->Shared->Prop),Inv X pins σ H s->(∀ b∈fp,i9 X pins H b)->tn i s.heap->J.go i H→
  wpAny (model P w) X.A (pyNext (.ref it)) (fun r s1=>∃ u,r=some u∧
   wpAny (model P w) X.A (letOwnedTupleGo tg (.ref it) u) (fun _ s2=>∃ x H',Inv X pins σ H' s2/\aZ x u/\J.yld i H x H'/\tn (i+1) s2.heap/\∀ b∈fp,H' b=none) E s1) E s
 done:∀ (X:Cx),X.prog=P->X.w=w->X.K=K->X.calm=true->∀ (i:Nat) (pins:List (Addr×Obj)) (s:Shared) (σ:St) (H:Hp) (E:Value->Shared->Prop),Inv X pins σ H s->(∀ b∈fp,i9 X pins H b)->tn i s.heap->J.stop i H→
  wpAny (model P w) X.A (pyNext (.ref it)) (fun r s1=>r=none/\Inv X pins σ H s1) E s
 self:∀ (A:Around) (i:Nat) (s:Shared) (Q:Value->Shared->Prop) (E:Value->Shared->Prop),tn i s.heap->Q (.ref it) s->wpAny (model P w) A (pyIter (.ref it)) Q E s
abbrev TI:=St->Hp->(It->Hp->Prop)->Prop
def Mn (X:Cx) (pins:List (Addr×Obj)) (σ:St) (tg:Expr) (R:It->Hp->Prop) (itv:Value) (s2:Shared):Prop:=
 ∃ (it:Addr) (fp:List Addr) (tn:Nat->Heap->Prop) (J:It) (H':Hp),itv=.ref it/\Inv X pins σ H' s2/\tH X.prog X.w X.K tg J fp it tn/\tn 0 s2.heap/\(∀ b∈fp,i9 X pins H' b)/\R J H'
def PI (X:Cx) (tg iter:Expr) (wi:TI):Prop:=
 ∀ (pins:List (Addr×Obj)) (s:Shared) (σ:St) (H:Hp) (R:It->Hp->Prop),Inv X pins σ H s->wi σ H R→
  wpAny (model X.prog X.w) X.A (eval iter X.env) (fun v s1=>wpAny (model X.prog X.w) X.A (pyIter v) (Mn X pins σ tg R) X.xe s1) X.xe s
theorem uH {M:Model} {A:Around} {E:Value->Shared->Prop} {s:Shared} {tg:Expr} {it:Addr} {u:Value} {o:Obj} {n:String} {vs:Array Value} {Q:Unit->Shared->Prop} (ho:s.heap.get? it=some o) (hc:o.cls=.type n) (hd:o.data=.fields vs)
  (hn:["enumerate", "zip", "dict_itemiterator", "dict_reverseitemiterator", "odict_iterator", "itertools.zip_longest", "itertools.pairwise"].contains n=false) (hQ:Q () s):wpAny M A (letOwnedTupleGo tg (.ref it) u) Q E s:=by
 unfold letOwnedTupleGo
 cases tg <;> first
  | exact wpAny_pure hQ
  | (cases u <;> first
    | exact wpAny_pure hQ
    | (refine wpAny_bind (wpAny_load ho ?_)
       rw [hc,hd]
       show wpAny M A (if (["enumerate", "zip", "dict_itemiterator", "dict_reverseitemiterator", "odict_iterator", "itertools.zip_longest", "itertools.pairwise"].contains n && vs[0]? == some (rawInt _))=true then _ else _) Q E s
       rw [if_neg (by intro h;rw [hn,Bool.false_and] at h;cases h)]
       exact wpAny_pure hQ))
def GL (K:PySem.W.Frag) (a:Addr):It:=
 ⟨fun i H=>∃ xs x,aU K H a xs/\xs[i]?=some x,fun i H x H'=>H'=H/\∀ xs,aU K H a xs->xs[i]?=some x,fun i H=>∃ xs,aU K H a xs/\xs.length≤i⟩
def A8 (K:PySem.W.Frag) (a:Addr):It:=
 ⟨fun i H=>∃ xs x,bt K H a xs/\xs[i]?=some x,fun i H x H'=>H'=H/\∀ xs,bt K H a xs->xs[i]?=some x,fun i H=>∃ xs,bt K H a xs/\xs.length≤i⟩
def Dg (lo:Int) (n:Nat):It:=⟨fun i _=>i < n,fun i H x H'=>H'=H/\x=.int (lo+i),fun i _=>n≤i⟩
theorem nh {P:Program} {w:World} {K:PySem.W.Frag} {tg:Expr} (a it:Addr):tH P w K tg (GL K a) [it] it (fun i h=>h.IsListIter it a i) where
 mem:=by simp
 obj:=fun i h st b hb=>by
  have e:b=it:=by simpa using hb
  subst e
  obtain⟨o,e,c,d⟩:=st
  exact⟨o,e,fun v z=>by rw [d] at z;cases z⟩
 keep:=fun i h h' st k=>st.at fun o e=>k it (by simp) o e
 item:=by
  intro X hP hw hK hc i pins s σ H E I hf st hg
  subst hP hw hK
  obtain⟨xs,x,hq,hx⟩:=hg
  obtain⟨its,rv,p,hz⟩:=I.list hq
  obtain⟨u,hu,ru⟩:=rv.get hx
  obtain⟨f0,f1,f2,f3,f4,f5⟩:=hf it (by simp)
  refine wpAny_pyNext_list_item st p.isList (x:=u) (by simpa using hu) fun h' st' sb=>?_
  have I1:Inv X pins σ H { s with heap:=h' }:=I.turned (t':=s.toks) (fun b o hb e=>(sb.2 b hb).trans e) f0 f1 f3 f4 f5
  obtain⟨o,e,c,d⟩:=id st'
  exact⟨u,rfl,uH (s:={ s with heap:=h' }) e c d (by decide) ⟨x,H,I1,ru,⟨rfl,fun ys hy=>by rw [I.list_inj hy hq];exact hx⟩,st',fun b hb=>(hf b hb).1⟩⟩
 done:=by
  intro X hP hw hK hc i pins s σ H E I hf st hg
  subst hP hw hK
  obtain⟨xs,hq,hx⟩:=hg
  obtain⟨its,rv,p,hz⟩:=I.list hq
  obtain⟨f0,f1,f2,f3,f4,f5⟩:=hf it (by simp)
  have hl:=rv.length
  exact wpAny_pyNext_list_end (I.ok.hd hc) st p.isList (by simp;omega) fun h' eb=>⟨rfl,I.turned (t':=s.toks) (fun b o hb e=>eb b o hb e) f0 f1 f3 f4 f5⟩
 self:=fun _ _ _ _ _ st h=>wpAny_pyIter_listiter st h
theorem kZ {P:Program} {w:World} {K:PySem.W.Frag} {tg:Expr} (a it:Addr):tH P w K tg (A8 K a) [it] it (fun i h=>h.IsTupleIter it a i) where
 mem:=by simp
 obj:=fun i h st b hb=>by
  have e:b=it:=by simpa using hb
  subst e
  obtain⟨o,e,c,d⟩:=st
  exact⟨o,e,fun v z=>by rw [d] at z;cases z⟩
 keep:=fun i h h' st k=>st.at fun o e=>k it (by simp) o e
 item:=by
  intro X hP hw hK hc i pins s σ H E I hf st hg
  subst hP hw hK
  obtain⟨xs,x,hq,hx⟩:=hg
  obtain⟨its,rv,p,hz⟩:=I.tuple hq
  obtain⟨u,hu,ru⟩:=rv.get hx
  obtain⟨f0,f1,f2,f3,f4,f5⟩:=hf it (by simp)
  refine wpAny_pyNext_tuple_item st (show s.heap.IsTuple a its.toArray from p) (x:=u) (by simpa using hu) fun h' st' sb=>?_
  have I1:Inv X pins σ H { s with heap:=h' }:=I.turned (t':=s.toks) (fun b o hb e=>(sb.2 b hb).trans e) f0 f1 f3 f4 f5
  obtain⟨o,e,c,d⟩:=id st'
  exact⟨u,rfl,uH (s:={ s with heap:=h' }) e c d (by decide) ⟨x,H,I1,ru,⟨rfl,fun ys hy=>by rw [I.tuple_inj hy hq];exact hx⟩,st',fun b hb=>(hf b hb).1⟩⟩
 done:=by
  intro X hP hw hK hc i pins s σ H E I hf st hg
  subst hP hw hK
  obtain⟨xs,hq,hx⟩:=hg
  obtain⟨its,rv,p,hz⟩:=I.tuple hq
  obtain⟨f0,f1,f2,f3,f4,f5⟩:=hf it (by simp)
  have hl:=rv.length
  exact wpAny_pyNext_tuple_end (I.ok.hd hc) st (show s.heap.IsTuple a its.toArray from p) (by simp;omega) fun h' eb=>⟨rfl,I.turned (t':=s.toks) (fun b o hb e=>eb b o hb e) f0 f1 f3 f4 f5⟩
 self:=fun _ _ _ _ _ st h=>wpAny_pyIter_tupleiter st h
theorem rH {P:Program} {w:World} {K:PySem.W.Frag} {tg:Expr} (it:Addr) (lo:Int) (n:Nat):tH P w K tg (Dg lo n) [it] it (fun i h=>IsRangeIter h it (lo+(i:Nat) * 1) ((n:Int) - (i:Nat)) 1) where
 mem:=by simp
 obj:=fun i h st b hb=>by
  have e:b=it:=by simpa using hb
  subst e
  exact⟨_,st,fun v z=>by
   have z':Data.fields _=Data.cell v:=z
   cases z'⟩
 keep:=fun i h h' st k=>k it (by simp) _ st
 item:=by
  intro X hP hw hK hc i pins s σ H E I hf st hg
  subst hP hw hK
  obtain⟨f0,f1,f2,f3,f4,f5⟩:=hf it (by simp)
  have W:=Walks.range (prog:=X.prog) (w:=X.w) (I.ok.hd hc) it lo 1 n
  refine W.item i s _ _ hg st fun v h' tk hv st' kk=>?_
  obtain⟨t,rfl⟩:=hv
  have I1:Inv X pins σ H { s with heap:=h',toks:=tk }:=I.turned (fun b o hb e=>kk b o (by simpa using hb) e) f0 f1 f3 f4 f5
  refine⟨_,rfl,uH (s:={ s with heap:=h',toks:=tk }) (n := "range_iterator") st' rfl rfl (by decide) ⟨.int (lo+i),H,I1,⟨t,?_⟩,⟨rfl,rfl⟩,st',fun b hb=>(hf b hb).1⟩⟩
  rw [Int.mul_one]
 done:=by
  intro X hP hw hK hc i pins s σ H E I hf st hg
  subst hP hw hK
  obtain⟨f0,f1,f2,f3,f4,f5⟩:=hf it (by simp)
  exact wpAny_pyNext_range_end (I.ok.hd hc) st (by have:n≤i:=hg;omega) fun h' eb=>⟨rfl,I.turned (t':=s.toks) (fun b o hb e=>eb b o hb e) f0 f1 f3 f4 f5⟩
 self:=fun _ _ _ _ _ st h=>wpAny_pyIter_rangeiter st h
end L2
namespace L2
open PySem PySem.Spec PyProof.Rows
section
variable {X:Cx} {tg:Expr}
inductive La (x:V) (P Q:Addr->Prop):Prop where
 | mk (a:Addr) (e:x=.ref a) (h:P a) (k:Q a):La x P Q
def Am (K:PySem.W.Frag) (tl:TE):TI:=fun σ H R=>tl σ H fun x H1=>La x (fun a=>∃ xs,aU K H1 a xs) fun a=>R (GL K a) H1
def IT (K:PySem.W.Frag) (tl:TE):TI:=fun σ H R=>tl σ H fun x H1=>La x (fun a=>∃ xs,bt K H1 a xs) fun a=>R (A8 K a) H1
theorem B5 {l:Expr} {tl:TE} (hl:PE X l tl):PI X tg l (Am X.K tl):=by
 intro pins s σ H R I h
 refine bX (hl pins s σ H _ I h) fun v s1 ⟨x,H1,I1,r1,q1⟩=>?_
 obtain⟨a,e,⟨xs,hq⟩,q⟩:=q1
 subst e
 cases r1
 obtain⟨its,rv,p,hz⟩:=I1.list hq
 refine wpAny_pyIter_list p.isList ?_
 refine⟨s1.heap.objs.size,[s1.heap.objs.size],_,_,H1,rfl,I1.kept (t':=s1.toks) fun b o e=>Heap.get?_push_of_some _ e,nh a _,⟨_,Heap.get?_push_size _ rfl,rfl,rfl⟩,fun b hb=>?_,q⟩
 have e:b=s1.heap.objs.size:=by simpa using hb
 subst e
 exact I1.fpOk (Nat.le_refl _) (I1.hok.fresh (Nat.le_refl _))
theorem Fd {l:Expr} {tl:TE} (hl:PE X l tl):PI X tg l (IT X.K tl):=by
 intro pins s σ H R I h
 refine bX (hl pins s σ H _ I h) fun v s1 ⟨x,H1,I1,r1,q1⟩=>?_
 obtain⟨a,e,⟨xs,hq⟩,q⟩:=q1
 subst e
 cases r1
 obtain⟨its,rv,p,hz⟩:=I1.tuple hq
 refine wpAny_pyIter_tuple (show s1.heap.IsTuple a its.toArray from p) ?_
 refine⟨s1.heap.objs.size,[s1.heap.objs.size],_,_,H1,rfl,I1.kept (t':=s1.toks) fun b o e=>Heap.get?_push_of_some _ e,kZ a _,⟨_,Heap.get?_push_size _ rfl,rfl,rfl⟩,fun b hb=>?_,q⟩
 have e:b=s1.heap.objs.size:=by simpa using hb
 subst e
 exact I1.fpOk (Nat.le_refl _) (I1.hok.fresh (Nat.le_refl _))
theorem yU {pins:List (Addr×Obj)} {σ:St} {H:Hp} {s:Shared} {R:It->Hp->Prop} {E:Value->Shared->Prop} {lo hi:Int} {t u v:Tok} {tk:Nat} (I:Inv X pins σ H s) (h1:-(2 ^ 62)≤lo) (h2:lo < 2 ^ 62) (h3:-(2 ^ 62)≤hi) (h4:hi < 2 ^ 62)
  (q:R (Dg lo (hi - lo).toNat) H):wpAny (model X.prog X.w) X.A (pyIter (.ref s.heap.objs.size)) (Mn X pins σ tg R) E { s with heap:=s.heap.push { cls:=.type "range", data:=.fields #[.int lo t,.int hi u,.int 1 v] },toks:=tk }:=by
 refine wpAny_pyIter_range (IsRange.new ..) (small_one h1 h2 h3 h4) ?_
 have I1:Inv X pins σ H { s with heap:=s.heap.push { cls:=.type "range", data:=.fields #[.int lo t,.int hi u,.int 1 v] },toks:=tk }:=I.kept fun b o e=>Heap.get?_push_of_some _ e
 refine⟨(s.heap.push { cls:=.type "range", data:=.fields #[.int lo t,.int hi u,.int 1 v] }).objs.size,[(s.heap.push { cls:=.type "range", data:=.fields #[.int lo t,.int hi u,.int 1 v] }).objs.size],_,_,H,rfl,
  I1.kept (t':=tk) fun b o e=>Heap.get?_push_of_some _ e,rH _ lo (hi - lo).toNat,?_,fun b hb=>?_,q⟩
 ·have e1:lo+((0:Nat):Int) * 1=lo:=by simp
  have e2:(((hi - lo).toNat:Nat):Int) - ((0:Nat):Int)=Builtin.Range.rangeSize lo hi 1:=by rw [rangeSize_one];split <;> omega
  show IsRangeIter _ _ (lo+((0:Nat):Int) * 1) ((((hi - lo).toNat:Nat):Int) - ((0:Nat):Int)) 1
  rw [e1,e2]
  exact Heap.get?_push_size _ rfl
 ·have e:b=(s.heap.push { cls:=.type "range", data:=.fields #[.int lo t,.int hi u,.int 1 v] }).objs.size:=by simpa using hb
  subst e
  exact I1.fpOk (Nat.le_refl _) (I1.hok.fresh (Nat.le_refl _))
def DJ (ta:TA):TI:=fun σ H R=>ta σ H fun vs H1=>∃ j:Int,vs=[.int j]/\-(2 ^ 62)≤j/\j < 2 ^ 62/\R (Dg 0 j.toNat) H1
def L7 (ta:TA):TI:=fun σ H R=>ta σ H fun vs H1=>∃ i j:Int,vs=[.int i,.int j]/\(-(2 ^ 62)≤i/\i < 2 ^ 62/\-(2 ^ 62)≤j/\j < 2 ^ 62)/\R (Dg i (j - i).toNat) H1
theorem vR {a:Expr} {ta:TA} {p pos:Pos} (hg:Gl X "range") (hm:X.mg "range" = none) (ha:PA X [a] ta) (hs:starEach [a] X.env=[(false,eval a X.env)]:=by rfl):PI X tg (.Call (.Name "range" p) [a] [] pos) (DJ ta):=by
 intro pins s σ H R I h
 refine Call_ (gQ I hg hm boot_range (PyProof.Rows.callWith_type1 (bX (ha pos pins s σ H _ I h) fun us s1 ⟨vs,H1,I1,r1,q1⟩=>?_) hs rfl))
 obtain⟨j,e,q1,q2,q⟩:=q1
 subst e
 cases r1 with
 | cons r rr=>
  cases rr
  obtain⟨t,rfl⟩:=r
  exact call_range_1 (yU I1 (by omega) (by omega) q1 q2 (by simpa using q))
def Hu (wi:TI) (g:TG) (tb:TS):TS:=fun D σ H=>wi σ H fun J H1=>∃ W:Nat->Nat->St->Hp->Prop,(∃ m,W 0 m σ H1)/\∀ i m σ H,W i m σ H→
 (J.stop i H/\D.nx σ H)∨(J.go i H/\∃ N:St->Hp->Prop,(∀ σ' H',N σ' H'->∃ m',m' < m/\W (i+1) m' σ' H')/\∀ x H',J.yld i H x H'->g x σ H' fun σ2 H2=>tb { D with nx:=N,ct:=N,bk:=D.nx } σ2 H2)
def lU (fp:List Addr) (h:Heap):List (Addr×Obj):=fp.filterMap fun b=>(h.get? b).map fun o=>(b,o)
theorem gi {fp:List Addr} {h:Heap} {b:Addr} {o:Obj} (hb:b∈fp) (e:h.get? b=some o):(b,o)∈lU fp h:=List.mem_filterMap.mpr ⟨b,hb,by rw [e];rfl⟩
theorem vU {fp:List Addr} {h:Heap} {p:Addr×Obj} (hp:p∈lU fp h):p.1∈fp/\h.get? p.1=some p.2:=by
 obtain⟨b,hb,e⟩:=List.mem_filterMap.mp hp
 cases q:h.get? b with
 | none=>rw [q] at e;cases e
 | some o=>
  rw [q] at e
  have e':(b,o)=p:=Option.some.inj e
  subst e'
  exact⟨hb,q⟩
theorem Inv.pinned {pins:List (Addr×Obj)} {σ:St} {H:Hp} {s:Shared} {fp:List Addr} (I:Inv X pins σ H s) (hf:∀ b∈fp,i9 X pins H b) (ho:∀ b∈fp,∃ o,s.heap.get? b=some o/\∀ v,o.data≠.cell v):Inv X (pins++lU fp s.heap) σ H s:=
 I.pins_of fun p hp=>(List.mem_append.mp hp).elim (fun z=>I.pin p (List.mem_append_right _ z)) fun z=>by
  obtain⟨hb,e⟩:=vU z
  obtain⟨f0,f1,f2,_⟩:=hf p.1 hb
  obtain⟨o,e',d⟩:=ho p.1 hb
  rw [e] at e';cases e'
  exact⟨e,f0,f1,f2,d⟩
theorem Inv.unpinned {pins pl:List (Addr×Obj)} {σ:St} {H:Hp} {s:Shared} (I:Inv X (pins++pl) σ H s):Inv X pins σ H s:=I.pins_of fun p hp=>I.pin p (List.mem_append_right _ (List.mem_append_left _ hp))
theorem E8 {iter:Expr} {body:List Stmt} {wi:TI} {g:TG} {tb:TS} {pos:Pos} (hp:PassesOwn (model X.prog X.w) X.A X.env X.xe) (hc:X.calm=true) (hi:PI X tg iter wi) (hg:PG X tg g) (hb:tK X body tb)
  (hs:∀ x,foldedSetIterable iter X.env x=pure x:=by intro _;rfl):PS X (.For tg iter body [] pos) (Hu wi g tb):=by
 intro pins s σ H D I h
 refine wpAny_For (bX (hi pins s σ H _ I h) fun v s1 h1=>bX h1 fun itv s2 h2=>?_) hs
 obtain⟨it,fp,tn,J,H2,e,I2,T,st2,f2,W,⟨m0,w0⟩,turn⟩:=h2
 subst e
 have stat:∀ {H':Hp},(∀ b∈fp,H' b=none)->∀ b∈fp,i9 X pins H' b:=fun hn b hb=>⟨hn b hb,(f2 b hb).2⟩
 refine codeAny_forLoop_any (fun n s'=>∃ i σ' H',Inv X pins σ' H' s'/\tn i s'.heap/\(∀ b∈fp,H' b=none)/\W i n σ' H') ?_ m0 ⟨0,σ,H2,I2,st2,fun b hb=>(f2 b hb).1,w0⟩
 rintro n s3 ⟨i,σ3,H3,I3,st3,fr3,w3⟩
 rcases turn i n σ3 H3 w3 with ⟨stop,qn⟩ | ⟨go,N,hN,step⟩
 ·refine wpAny_passesOwn hp (bX (T.done X rfl rfl rfl hc i pins s3 σ3 H3 X.xe I3 (stat fr3) st3 stop) fun r s4 ⟨hr,I4⟩=>?_)
  subst hr
  exact wpAny_execs_nil ⟨σ3,H3,I4,qn⟩
 ·refine wpAny_passesOwn hp (bX (T.item X rfl rfl rfl hc i pins s3 σ3 H3 X.xe I3 (stat fr3) st3 go) fun r s4 ⟨u,hr,h4⟩=>?_)
  subst hr
  refine wpAny_passesOwn hp (bX h4 fun _ s5 ⟨x,H5,I5,r5,y5,st5,fr5⟩=>?_)
  have I5':=I5.pinned (stat fr5) (T.obj _ _ st5)
  refine wpAny_passesOwn hp (bX (hg _ s5 σ3 H5 x u _ I5' r5 (step x H5 y5)) fun _ s6 ⟨σ6,H6,I6,q6⟩=>?_)
  refine wpAny_passesOwn hp (bX (hb _ s6 σ6 H6 _ I6 q6) fun f s7 q7=>?_)
  have again:∀ {σ7:St} {H7:Hp},Inv X (pins++lU fp s5.heap) σ7 H7 s7->N σ7 H7->∃ m,m < n/\∃ i σ' H',Inv X pins σ' H' s7/\tn i s7.heap/\(∀ b∈fp,H' b=none)/\W i m σ' H':=fun {σ7 H7} I7 n7=>by
   obtain⟨m',hm,w7⟩:=hN σ7 H7 n7
   refine⟨m',hm,i+1,σ7,H7,I7.unpinned,T.keep _ _ _ st5 fun b hb o e=>(I7.pin (b,o) (List.mem_append_right _ (List.mem_append_right _ (gi hb e)))).1,fun b hb=>?_,w7⟩
   obtain⟨o,e,d⟩:=T.obj _ _ st5 b hb
   exact (I7.pin (b,o) (List.mem_append_right _ (List.mem_append_right _ (gi hb e)))).2.1
  cases f with
  | next=>obtain⟨σ7,H7,I7,n7⟩:=q7;exact again I7 n7
  | cont=>obtain⟨σ7,H7,I7,n7⟩:=q7;exact again I7 n7
  | brk=>obtain⟨σ7,H7,I7,q7⟩:=q7;exact⟨σ7,H7,I7.unpinned,q7⟩
  | ret v=>obtain⟨x7,σ7,H7,I7,r7,q7⟩:=q7;exact⟨x7,σ7,H7,I7.unpinned,r7,q7⟩
end
theorem js {K:PySem.W.Frag} {a:Addr} {xs:List V} {g:TG} {tb:TS} {D:jI} {σ:St} {H:Hp} (Pv:Nat->St->Hp->Prop) (h0:Pv 0 σ H) (hl:∀ i σ H,i≤xs.length->Pv i σ H->aU K H a xs)
  (hs:∀ i x σ H,xs[i]?=some x->Pv i σ H->g x σ H fun σ2 H2=>tb { D with nx:=Pv (i+1),ct:=Pv (i+1),bk:=D.nx } σ2 H2) (hd:∀ σ H,Pv xs.length σ H->D.nx σ H) :
  ∃ W:Nat->Nat->St->Hp->Prop,(∃ m,W 0 m σ H)/\∀ i m σ H,W i m σ H→
   ((GL K a).stop i H/\D.nx σ H)∨((GL K a).go i H/\∃ N:St->Hp->Prop,(∀ σ' H',N σ' H'->∃ m',m' < m/\W (i+1) m' σ' H')/\∀ x H',(GL K a).yld i H x H'->g x σ H' fun σ2 H2=>tb { D with nx:=N,ct:=N,bk:=D.nx } σ2 H2):=by
 refine⟨fun i m σ H=>m=xs.length - i/\i≤xs.length/\Pv i σ H,⟨xs.length,by simp,Nat.zero_le _,h0⟩,?_⟩
 rintro i m σ H ⟨rfl,hi,p⟩
 have q:=hl i σ H hi p
 by_cases hlt:i < xs.length
 ·refine .inr ⟨⟨xs,xs[i],q,by simp [hlt]⟩,Pv (i+1),fun σ' H' p'=>⟨xs.length - (i+1),by omega,rfl,hlt,p'⟩,fun x H' y=>?_⟩
  obtain⟨e,y⟩:=y
  subst e
  exact hs i x σ _ (y xs q) p
 ·have e:i=xs.length:=by omega
  subst e
  exact .inl ⟨⟨xs,q,Nat.le_refl _⟩,hd σ H p⟩
theorem ik {K:PySem.W.Frag} {a:Addr} {xs:List V} {g:TG} {tb:TS} {D:jI} {σ:St} {H:Hp} (Pv:Nat->St->Hp->Prop) (h0:Pv 0 σ H) (hl:∀ i σ H,i≤xs.length->Pv i σ H->bt K H a xs)
  (hs:∀ i x σ H,xs[i]?=some x->Pv i σ H->g x σ H fun σ2 H2=>tb { D with nx:=Pv (i+1),ct:=Pv (i+1),bk:=D.nx } σ2 H2) (hd:∀ σ H,Pv xs.length σ H->D.nx σ H) :
  ∃ W:Nat->Nat->St->Hp->Prop,(∃ m,W 0 m σ H)/\∀ i m σ H,W i m σ H→
   ((A8 K a).stop i H/\D.nx σ H)∨((A8 K a).go i H/\∃ N:St->Hp->Prop,(∀ σ' H',N σ' H'->∃ m',m' < m/\W (i+1) m' σ' H')/\∀ x H',(A8 K a).yld i H x H'->g x σ H' fun σ2 H2=>tb { D with nx:=N,ct:=N,bk:=D.nx } σ2 H2):=by
 refine⟨fun i m σ H=>m=xs.length - i/\i≤xs.length/\Pv i σ H,⟨xs.length,by simp,Nat.zero_le _,h0⟩,?_⟩
 rintro i m σ H ⟨rfl,hi,p⟩
 have q:=hl i σ H hi p
 by_cases hlt:i < xs.length
 ·refine .inr ⟨⟨xs,xs[i],q,by simp [hlt]⟩,Pv (i+1),fun σ' H' p'=>⟨xs.length - (i+1),by omega,rfl,hlt,p'⟩,fun x H' y=>?_⟩
  obtain⟨e,y⟩:=y
  subst e
  exact hs i x σ _ (y xs q) p
 ·have e:i=xs.length:=by omega
  subst e
  exact .inl ⟨⟨xs,q,Nat.le_refl _⟩,hd σ H p⟩
theorem eT {lo:Int} {n:Nat} {g:TG} {tb:TS} {D:jI} {σ:St} {H:Hp} (Pv:Nat->St->Hp->Prop) (h0:Pv 0 σ H)
  (hs:∀ i σ H,i < n->Pv i σ H->g (.int (lo+i)) σ H fun σ2 H2=>tb { D with nx:=Pv (i+1),ct:=Pv (i+1),bk:=D.nx } σ2 H2) (hd:∀ σ H,Pv n σ H->D.nx σ H) :
  ∃ W:Nat->Nat->St->Hp->Prop,(∃ m,W 0 m σ H)/\∀ i m σ H,W i m σ H→
   ((Dg lo n).stop i H/\D.nx σ H)∨((Dg lo n).go i H/\∃ N:St->Hp->Prop,(∀ σ' H',N σ' H'->∃ m',m' < m/\W (i+1) m' σ' H')/\∀ x H',(Dg lo n).yld i H x H'->g x σ H' fun σ2 H2=>tb { D with nx:=N,ct:=N,bk:=D.nx } σ2 H2):=by
 refine⟨fun i m σ H=>m=n - i/\i≤n/\Pv i σ H,⟨n,by simp,Nat.zero_le _,h0⟩,?_⟩
 rintro i m σ H ⟨rfl,hi,p⟩
 by_cases hlt:i < n
 ·refine .inr ⟨hlt,Pv (i+1),fun σ' H' p'=>⟨n - (i+1),by omega,rfl,hlt,p'⟩,fun x H' y=>?_⟩
  obtain⟨e,y⟩:=y
  subst e y
  exact hs i σ _ hlt p
 ·have e:i=n:=by omega
  subst e
  exact .inl ⟨Nat.le_refl _,hd σ H p⟩
end L2
namespace L2
open PySem PySem.Spec PyProof.Rows
abbrev R2:=V->V->Hp->VK->Prop
def gF (X:Cx) (f:Value->Value->Sem Value) (r:R2):Prop:=
 ∀ (pins:List (Addr×Obj)) (s:Shared) (σ:St) (H:Hp) (x y:V) (v u:Value) (Q:VK),Inv X pins σ H s->aZ x v->aZ y u->r x y H Q→
  wpAny (model X.prog X.w) X.A (f v u) (EP X pins σ Q) X.xe s
def J1 (X:Cx) (f:Value->Sem Value) (r:V->Hp->VK->Prop):Prop:=
 ∀ (pins:List (Addr×Obj)) (s:Shared) (σ:St) (H:Hp) (x:V) (v:Value) (Q:VK),Inv X pins σ H s->aZ x v->r x H Q→
  wpAny (model X.prog X.w) X.A (f v) (EP X pins σ Q) X.xe s
def dD (X:Cx) (f:Value) (r:List V->Hp->VK->Prop):Prop:=
 ∀ (pins:List (Addr×Obj)) (s:Shared) (σ:St) (H:Hp) (xs:List V) (us:List Value) (Q:VK),Inv X pins σ H s->aX xs us->r xs H Q→
  wpAny (model X.prog X.w) X.A (call f us) (EP X pins σ Q) X.xe s
def Np (X:Cx) (r:V->Hp->(Bool->Hp->Prop)->Prop):Prop:=
 ∀ (pins:List (Addr×Obj)) (s:Shared) (σ:St) (H:Hp) (x:V) (v:Value) (Q:Bool->Hp->Prop),Inv X pins σ H s->aZ x v->r x H Q→
  wpAny (model X.prog X.w) X.A (truthy v) (TP X pins σ Q) X.xe s
def Bg (r:R2) (ta tb:TE):TE:=fun σ H Q=>ta σ H fun x H1=>tb σ H1 fun y H2=>r x y H2 Q
def Ll (r:V->Hp->VK->Prop) (ta:TE):TE:=fun σ H Q=>ta σ H fun x H1=>r x H1 Q
def rI (C:Int->Int->Prop) (g:Int->Int->V):R2:=fun x y H Q=>Mq x y C fun i j=>Q (g i j) H
def DA (g:Int->Int->V):R2:=fun x y H Q=>Jy x y fun i j=>Q (g i j) H
def rU (g:Int->V):V->Hp->VK->Prop:=fun x H Q=>Lb x fun i=>Q (g i) H
section
variable {X:Cx} {a b c:Expr} {ta tb tc:TE} {pos:Pos}
theorem GB (ha:PE X a ta) (hb:PE X b tb) {pins:List (Addr×Obj)} {s:Shared} {σ:St} {H:Hp} {R:V->V->Hp->Prop} (I:Inv X pins σ H s)
  (h:ta σ H fun x H1=>tb σ H1 fun y H2=>R x y H2) {Q:Value->Shared->Prop} {f:Value->Value->Sem Value}
  (hf:∀ v u s2 x y H2,Inv X pins σ H2 s2->aZ x v->aZ y u->R x y H2->wpAny (model X.prog X.w) X.A (f v u) Q X.xe s2) :
  wpAny (model X.prog X.w) X.A (eval a X.env) (fun v s₁=>wpAny (model X.prog X.w) X.A (eval b X.env) (fun u s₂=>wpAny (model X.prog X.w) X.A (f v u) Q X.xe s₂) X.xe s₁) X.xe s:=by
 refine bX (ha pins s σ H _ I h) fun v s1 ⟨x,H1,I1,r1,q1⟩=>?_
 refine bX (hb pins s1 σ H1 _ I1 q1) fun u s2 ⟨y,H2,I2,r2,q2⟩=>?_
 exact hf v u s2 x y H2 I2 r1 r2 q2
theorem Is {op:Operator} {r:R2} (ho:gF X (binaryOp op) r) (ha:PE X a ta) (hb:PE X b tb):PE X (.BinOp a op b pos) (Bg r ta tb):=by
 intro pins s σ H Q I h
 exact wpAny_BinOp (GB ha hb I h fun v u s2 x y H2 I2 rx ry q=>ho pins s2 σ H2 x y v u Q I2 rx ry q)
theorem Ir {op:UnaryOp} {r:V->Hp->VK->Prop} (ho:J1 X (unaryOp op) r) (ha:PE X a ta):PE X (.UnaryOp op a pos) (Ll r ta):=by
 intro pins s σ H Q I h
 exact UnaryOp_ (bX (ha pins s σ H _ I h) fun v s1 ⟨x,H1,I1,r1,q1⟩=>ho pins s1 σ H1 x v Q I1 r1 q1)
theorem G3 {f:Value->Value->Sem Value} {C:Int->Int->Prop} {g:Int->Int->Int}
  (rule:∀ (i j:Int) (t u:Tok) (s:Shared) (Q:Value->Shared->Prop) (E:Value->Shared->Prop),C i j->Q (.int (g i j) s.toks) { s with toks:=s.toks+1 }->wpAny (model X.prog X.w) X.A (f (.int i t) (.int j u)) Q E s) :
  gF X f (rI C fun i j=>.int (g i j)):=by
 intro pins s σ H x y v u Q I rx ry h
 obtain⟨i,j,rfl,rfl,hc,q⟩:=h
 obtain⟨t,rfl⟩:=rx
 obtain⟨t',rfl⟩:=ry
 exact rule i j t t' s _ _ hc ⟨.int (g i j),H,I.tok _,⟨_,rfl⟩,q⟩
theorem IB {f:Value->Value->Sem Value} {g:Int->Int->Int}
  (rule:∀ (i j:Int) (t u:Tok) (s:Shared) (Q:Value->Shared->Prop) (E:Value->Shared->Prop),Q (.int (g i j) s.toks) { s with toks:=s.toks+1 }->wpAny (model X.prog X.w) X.A (f (.int i t) (.int j u)) Q E s) :
  gF X f (DA fun i j=>.int (g i j)):=by
 intro pins s σ H x y v u Q I rx ry h
 obtain⟨i,j,rfl,rfl,q⟩:=h
 obtain⟨t,rfl⟩:=rx
 obtain⟨t',rfl⟩:=ry
 exact rule i j t t' s _ _ ⟨.int (g i j),H,I.tok _,⟨_,rfl⟩,q⟩
theorem Cn {f:Value->Value->Sem Value} {g:Int->Int->Bool}
  (rule:∀ (i j:Int) (t u:Tok) (s:Shared) (Q:Value->Shared->Prop) (E:Value->Shared->Prop),Q (.bool (g i j)) s->wpAny (model X.prog X.w) X.A (f (.int i t) (.int j u)) Q E s) :
  gF X f (DA fun i j=>.bl (g i j)):=by
 intro pins s σ H x y v u Q I rx ry h
 obtain⟨i,j,rfl,rfl,q⟩:=h
 obtain⟨t,rfl⟩:=rx
 obtain⟨t',rfl⟩:=ry
 exact rule i j t t' s _ _ ⟨.bl (g i j),H,I,rfl,q⟩
def Li (i j:Int):Prop:=0 < j/\j < 1073741824
def Mv (i j:Int):Prop:=j≠0/\j.natAbs < 1073741824
def Lh (i j:Int):Prop:=0≤j/\j≤1000000/\i.natAbs < 2 ^ 64
def GR (i j:Int):Prop:=(-(2 ^ 64) < i/\i < 2 ^ 64)∨(-(2 ^ 64) < j/\j < 2 ^ 64)
theorem GR.ok {i j:Int} (h:GR i j):IntMulOk i j:=by
 rcases h with ⟨h1,h2⟩ | ⟨h1,h2⟩
 ·exact .of_left (intBits_le_64 h1 h2)
 ·exact .of_right (intBits_le_64 h1 h2)
theorem dm:gF X (binaryOp .Add) (DA fun i j=>.int (i+j)):=IB fun _ _ _ _ _ _ _ q=>add_int q
theorem i7:gF X (binaryOp .Sub) (DA fun i j=>.int (i - j)):=IB fun _ _ _ _ _ _ _ q=>sub_int q
theorem gN:gF X (binaryOp .Mult) (rI GR fun i j=>.int (i * j)):=G3 fun _ _ _ _ _ _ _ hc q=>mul_int q hc.ok
theorem uA:gF X (binaryOp .FloorDiv) (rI Li fun i j=>.int (i / j)):=G3 fun i j _ _ _ _ _ hc q=>by
 have h1:(0:Int) < j:=hc.1
 have h2:j < 1073741824:=hc.2
 exact floordiv_int (by omega) (by rw [Int.fdiv_eq_ediv_of_nonneg i (by omega)];exact q) (.inl (PyProof.noPylong_small (by omega)))
theorem gO:gF X (binaryOp .Mod) (rI (fun _ j=>0 < j) fun i j=>.int (i % j)):=G3 fun i j _ _ _ _ _ hc q=>by
 have h1:(0:Int) < j:=hc
 exact mod_int' (by omega) (by rw [Int.fmod_eq_emod_of_nonneg i (by omega)];exact q)
theorem Fs:gF X (binaryOp .Pow) (rI Lh fun i j=>.int (i ^ j.toNat)):=G3 fun _ _ _ _ _ _ _ hc q=>pow_int_small hc.1 hc.2.1 hc.2.2 q
theorem ME {f:Value->Sem Value} {g:Int->Int}
  (rule:∀ (i:Int) (t:Tok) (s:Shared) (Q:Value->Shared->Prop) (E:Value->Shared->Prop),Q (.int (g i) s.toks) { s with toks:=s.toks+1 }->wpAny (model X.prog X.w) X.A (f (.int i t)) Q E s) :
  J1 X f (rU fun i=>.int (g i)):=by
 intro pins s σ H x v Q I rx h
 obtain⟨i,rfl,q⟩:=h
 obtain⟨t,rfl⟩:=rx
 exact rule i t s _ _ ⟨.int (g i),H,I.tok _,⟨_,rfl⟩,q⟩
theorem kX:J1 X (unaryOp .USub) (rU fun i=>.int (-i)):=ME fun _ _ _ _ _ q=>neg_int q
end
def HN:V->V->Bool
 | .non,.non=>true | .non,.int _=>true | .int _,.non=>true | .non,.bl _=>true | .bl _,.non=>true | .non,.str _=>true | .str _,.non=>true
 | .int _,.int _=>true | .bl _,.bl _=>true | .str _,.str _=>true | .byt _,.byt _=>true
 | .int _,.str _=>true | .str _,.int _=>true | .bl _,.str _=>true | .str _,.bl _=>true
 | _,_=>false
def Na:R2:=fun x y H Q=>HN x y=true/\Q (.bl (decide (x=y))) H
def M3:R2:=fun x y H Q=>HN x y=true/\Q (.bl (!decide (x=y))) H
theorem uL {i j:Int}:decide (V.int i=V.int j)=(i == j):=by
 rw [Bool.eq_iff_iff]
 simp
theorem AG {i j:Bool}:decide (V.bl i=V.bl j)=(i == j):=by
 rw [Bool.eq_iff_iff]
 simp
theorem uK {i j:Str}:decide (V.str i=V.str j)=(i == j):=by
 rw [Bool.eq_iff_iff]
 simp
theorem uM {i j:Array UInt8}:decide (V.byt i=V.byt j)=(i.toList == j.toList):=by
 rw [Bool.eq_iff_iff]
 cases i
 cases j
 simp
section
variable {X:Cx} {a b c:Expr} {ta tb tc:TE} {pos:Pos}
theorem bA {pins:List (Addr×Obj)} {σ:St} {H:Hp} {s:Shared} {Q:VK} {k k':Bool} (I:Inv X pins σ H s) (q:Q (.bl k) H) (e:k=k'):EP X pins σ Q (.bool k') s:=by
 subst e
 exact⟨.bl k,H,I,rfl,q⟩
theorem nH:gF X (compareOp .Eq) Na:=by
 intro pins s σ H x y v u Q I rx ry h
 obtain⟨hs,q⟩:=h
 cases x with
 | non=>
  cases rx
  cases y with
  | non=>cases ry;exact PySem.EqNone.eq_none_none (bA I q (by simp))
  | bl j=>cases ry;exact PySem.EqNone.eq_none_bool (bA I q (by simp))
  | int j=>obtain⟨t',rfl⟩:=ry;exact PySem.EqNone.eq_none_int (bA I q (by simp))
  | str j=>obtain⟨t',rfl⟩:=ry;exact PySem.EqNone.eq_none_str (bA I q (by simp))
  | _=>exact absurd (show false=true from hs) Bool.false_ne_true
 | bl i=>
  cases rx
  cases y with
  | non=>cases ry;exact PySem.EqNone.eq_bool_none (bA I q (by simp))
  | bl j=>cases ry;exact eq_bool (bA I q AG)
  | str j=>obtain⟨t',rfl⟩:=ry;exact PySem.EqMixed.eq_bool_str (bA I q (by simp))
  | _=>exact absurd (show false=true from hs) Bool.false_ne_true
 | int i=>
  obtain⟨t,rfl⟩:=rx
  cases y with
  | non=>cases ry;exact PySem.EqNone.eq_int_none (bA I q (by simp))
  | int j=>obtain⟨t',rfl⟩:=ry;exact eq_int (bA I q uL)
  | str j=>obtain⟨t',rfl⟩:=ry;exact PySem.EqMixed.eq_int_str (bA I q (by simp))
  | _=>exact absurd (show false=true from hs) Bool.false_ne_true
 | str i=>
  obtain⟨t,rfl⟩:=rx
  cases y with
  | non=>cases ry;exact PySem.EqNone.eq_str_none (bA I q (by simp))
  | bl j=>cases ry;exact PySem.EqMixed.eq_str_bool (bA I q (by simp))
  | int j=>obtain⟨t',rfl⟩:=ry;exact PySem.EqMixed.eq_str_int (bA I q (by simp))
  | str j=>obtain⟨t',rfl⟩:=ry;exact eq_str (bA I q uK)
  | _=>exact absurd (show false=true from hs) Bool.false_ne_true
 | byt i=>
  obtain⟨t,rfl⟩:=rx
  cases y with
  | byt j=>obtain⟨t',rfl⟩:=ry;exact PySem.W.eq_bytes (bA I q uM)
  | _=>exact absurd (show false=true from hs) Bool.false_ne_true
 | _=>cases y <;> exact absurd (show false=true from hs) Bool.false_ne_true
theorem IA:gF X (compareOp .NotEq) M3:=by
 intro pins s σ H x y v u Q I rx ry h
 obtain⟨hs,q⟩:=h
 cases x with
 | non=>
  cases rx
  cases y with
  | non=>cases ry;exact PySem.EqNone.ne_none_none (bA I q (by simp))
  | bl j=>cases ry;exact PySem.EqNone.ne_none_bool (bA I q (by simp))
  | int j=>obtain⟨t',rfl⟩:=ry;exact PySem.EqNone.ne_none_int (bA I q (by simp))
  | str j=>obtain⟨t',rfl⟩:=ry;exact PySem.EqNone.ne_none_str (bA I q (by simp))
  | _=>exact absurd (show false=true from hs) Bool.false_ne_true
 | bl i=>
  cases rx
  cases y with
  | non=>cases ry;exact PySem.EqNone.ne_bool_none (bA I q (by simp))
  | bl j=>cases ry;exact ne_bool (bA I q (congrArg not AG))
  | str j=>obtain⟨t',rfl⟩:=ry;exact PySem.EqMixed.ne_bool_str (bA I q (by simp))
  | _=>exact absurd (show false=true from hs) Bool.false_ne_true
 | int i=>
  obtain⟨t,rfl⟩:=rx
  cases y with
  | non=>cases ry;exact PySem.EqNone.ne_int_none (bA I q (by simp))
  | int j=>obtain⟨t',rfl⟩:=ry;exact ne_int (bA I q (congrArg not uL))
  | str j=>obtain⟨t',rfl⟩:=ry;exact PySem.EqMixed.ne_int_str (bA I q (by simp))
  | _=>exact absurd (show false=true from hs) Bool.false_ne_true
 | str i=>
  obtain⟨t,rfl⟩:=rx
  cases y with
  | non=>cases ry;exact PySem.EqNone.ne_str_none (bA I q (by simp))
  | bl j=>cases ry;exact PySem.EqMixed.ne_str_bool (bA I q (by simp))
  | int j=>obtain⟨t',rfl⟩:=ry;exact PySem.EqMixed.ne_str_int (bA I q (by simp))
  | str j=>obtain⟨t',rfl⟩:=ry;exact ne_str (bA I q (congrArg not uK))
  | _=>exact absurd (show false=true from hs) Bool.false_ne_true
 | byt i=>
  obtain⟨t,rfl⟩:=rx
  cases y with
  | byt j=>obtain⟨t',rfl⟩:=ry;exact PySem.W.ne_bytes (bA I q (congrArg not uM))
  | _=>exact absurd (show false=true from hs) Bool.false_ne_true
 | _=>cases y <;> exact absurd (show false=true from hs) Bool.false_ne_true
theorem j7:gF X (compareOp .Lt) (DA fun i j=>.bl (decide (i < j))):=Cn fun _ _ _ _ _ _ _ q=>lt_int q
theorem nG:gF X (compareOp .LtE) (DA fun i j=>.bl (decide (i≤j))):=Cn fun _ _ _ _ _ _ _ q=>le_int q
theorem jm:gF X (compareOp .Gt) (DA fun i j=>.bl (decide (j < i))):=Cn fun _ _ _ _ _ _ _ q=>gt_int q
theorem zM:gF X (compareOp .GtE) (DA fun i j=>.bl (decide (j≤i))):=Cn fun _ _ _ _ _ _ _ q=>ge_int q
theorem Ck:gF X (compareOp .IsNot) (fun x y H Q=>y=.non/\Q (.bl (!decide (x=.non))) H):=by
 intro pins s σ H x y v u Q I rx ry h
 obtain⟨rfl,q⟩:=h
 cases ry
 refine isnot_none_gen (bA I q ?_)
 cases x <;> first
  | (cases rx;rfl)
  | (obtain⟨t,rfl⟩:=rx;rfl)
def L3:HO->Bool
 | .lst _=>true
 | .ins _ _ _=>true
 | _=>false
theorem bi (b:Expr) {op:CmpOp} (h:op≠.In:=by decide) (h2:op≠.NotIn:=by decide):behindInMarks op b=false:=by
 have e1:(op == CmpOp.In)=false:=by cases op <;> first | rfl | exact absurd rfl h
 have e2:(op == CmpOp.NotIn)=false:=by cases op <;> first | rfl | exact absurd rfl h2
 cases b <;> simp [behindInMarks,e1,e2]
theorem Cd {op:CmpOp} {r:R2} (ho:gF X (compareOp op) r) (ha:PE X a ta) (hb:PE X b tb) (hm:behindInMarks op b=false):PE X (.Compare a [op] [b] pos) (Bg r ta tb):=by
 intro pins s σ H Q I h
 exact wpAny_Compare1 (GB ha hb I h fun v u s2 x y H2 I2 rx ry q=>ho pins s2 σ H2 x y v u Q I2 rx ry q) hm
def Dj (t:TE):TT:=fun σ H Q=>t σ H fun x H'=>Hb x fun k=>Q k H'
theorem BW {op:CmpOp} {r:R2} (ho:gF X (compareOp op) r) (ha:PE X a ta) (hb:PE X b tb) (hm:behindInMarks op b=false):PT X (.Compare a [op] [b] pos) (Dj (Bg r ta tb)):=by
 intro pins s σ H Q I h
 refine wpAny_isTrue_Compare1 (bX (ha pins s σ H _ I h) fun v s1 ⟨x,H1,I1,r1,q1⟩=>bX (hb pins s1 σ H1 _ I1 q1) fun u s2 ⟨y,H2,I2,r2,q2⟩=>
  bX (ho pins s2 σ H2 x y v u _ I2 r1 r2 q2) fun c s3 ⟨z,H3,I3,r3,k,e,q3⟩=>?_) hm
 subst e
 cases r3
 exact wpAny_truthy_bool ⟨H3,I3,q3⟩
def xx (r r':R2) (ta tb tc:TE):TE:=fun σ H Q=>ta σ H fun x H1=>tb σ H1 fun y H2=>r x y H2 fun z H3=>∃ k,z=.bl k∧
 (if k=true then tc σ H3 fun w' H4=>r' y w' H4 Q else Q (.bl false) H3)
theorem zI {op op':CmpOp} {r r':R2} (ho:gF X (compareOp op) r) (ho':gF X (compareOp op') r') (ha:PE X a ta) (hb:PE X b tb) (hc:PE X c tc)
  (hm:lastMarks [op,op'] [b,c]=false:=by with_unfolding_all rfl):PE X (.Compare a [op,op'] [b,c] pos) (xx r r' ta tb tc):=by
 intro pins s σ H Q I h
 refine Compare_chain (bX (ha pins s σ H _ I h) fun v s1 ⟨x,H1,I1,r1,q1⟩=>chain_link (bX (hb pins s1 σ H1 _ I1 q1) fun u s2 ⟨y,H2,I2,r2,q2⟩=>
  bX (ho pins s2 σ H2 x y v u _ I2 r1 r2 q2) fun d s3 ⟨z,H3,I3,r3,k,e,q3⟩=>?_)) hm
 subst e
 cases r3
 refine wpAny_truthy_bool ?_
 cases k with
 | false=>exact ite_ff ⟨.bl false,H3,I3,rfl,q3⟩
 | true=>exact ite_tt (chain_last (bX (hc pins s3 σ H3 _ I3 q3) fun w' s4 ⟨z',H4,I4,r4,q4⟩=>ho' pins s4 σ H4 y z' u w' Q I4 r2 r4 q4))
def No (K:PySem.W.Frag) (x:V) (H:Hp) (k:Bool):Prop:=
 match x with
 | .non=>k=false
 | .bl b=>k=b
 | .int i=>k=(i != 0)
 | .str y=>y.length≤sizeLine/\k=((y.length:Int) != 0)
 | .byt y=>y.size≤sizeLine/\k=((y.size:Int) != 0)
 | .ref p=>(∃ xs,aU K H p xs/\k=!xs.isEmpty)∨(∃ xs,bt K H p xs/\k=!xs.isEmpty)∨∃ kvs,H p=some (.dK kvs)/\k=!kvs.isEmpty
 | _=>False
theorem ma:(sizeLine:Nat) < 2 ^ 63:=by rw [sizeLine_eq];decide
def Jo (b:Expr):Prop:=∀ o i,subscripted b false o i=operate [o,i] (getItem o i)
theorem gH {x:V} {us:List Value} (r:aX [x] us):∃ u,us=[u]/\aZ x u:=by
 cases r with
 | cons r1 r2=>cases r2;exact⟨_,rfl,r1⟩
theorem ua {x y:V} {us:List Value} (r:aX [x,y] us):∃ u w',us=[u,w']/\aZ x u/\aZ y w':=by
 cases r with
 | cons r1 r2=>
  cases r2 with
  | cons r3 r4=>cases r4;exact⟨_,_,rfl,r1,r3⟩
theorem mE:dD X (.builtin "abs") (fun xs H Q=>∃ i,xs=[.int i]/\Q (.int (if i < 0 then -i else i)) H):=by
 intro pins s σ H xs us Q I r h
 obtain⟨i,rfl,q⟩:=h
 obtain⟨u,rfl,t,rfl⟩:=gH r
 exact call_abs_int fun u tk=>⟨.int (if i < 0 then -i else i),H,I.tok _,⟨_,rfl⟩,q⟩
theorem wD (hc:X.calm=true):dD X (.builtin "min") (fun xs H Q=>∃ i j,xs=[.int i,.int j]/\Q (.int (if j < i then j else i)) H):=by
 intro pins s σ H xs us Q I r h
 obtain⟨i,j,rfl,q⟩:=h
 obtain⟨u,w',rfl,⟨t,rfl⟩,⟨t',rfl⟩⟩:=ua r
 refine min_two_ints (I.ok.hd hc) fun h' tk k=>⟨_,H,I.kept k,?_,q⟩
 by_cases hj:j < i
 ·rw [if_pos hj,if_pos hj];exact⟨_,rfl⟩
 ·rw [if_neg hj,if_neg hj];exact⟨_,rfl⟩
def Nz (K:PySem.W.Frag) (x:V) (H:Hp) (n:Nat):Prop:=
 match x with
 | .str y=>y.length≤sizeLine/\n=y.length
 | .byt y=>y.size≤sizeLine/\n=y.size
 | .ref p=>(∃ xs,aU K H p xs/\n=xs.length)∨∃ xs,bt K H p xs/\n=xs.length
 | _=>False
end
end L2
namespace L2
open PySem PySem.Spec PyProof.Rows
structure tO (h:Heap) (x dx C:Addr) (mA:Str->Option Value):Prop where
 obj:h.get? x=some (PySem.W.instObj C dx)
 ns:h.Ns1 dx mA
 ne:dx≠x
theorem vW {h:Heap} {dx:Addr} {mA:Str->Option Value} (n:h.Ns1 dx mA):∃ od,h.get? dx=some od/\∀ name,PySem.W.lookIn name od=some (mA name):=by
 obtain⟨o,es,ep,ho,hd,hk,_,hm⟩:=n
 refine⟨o,ho,fun name=>?_⟩
 have e:=hm name
 unfold nsFind findBy at e
 rw [← Array.find?_toList] at e
 unfold PySem.W.lookIn
 rw [hd]
 dsimp only
 split
 ·rename_i y q
  rw [q] at e
  exact congrArg some e
 ·rename_i q
  rw [q] at e
  have a:es.toList.any (·.refKey)=false:=by
   rw [List.any_eq_false]
   intro y hy
   obtain⟨z,t,hkey⟩:=hk y (Array.mem_toList_iff.mp hy)
   simp [DictEntry.refKey,hkey]
  have a':¬ es.toList.any (·.refKey)=true:=by rw [a];exact Bool.false_ne_true
  rw [if_neg a']
  exact congrArg some e
theorem tO.look {h:Heap} {x dx C:Addr} {mA:Str->Option Value} (I:tO h x dx C mA):∃ od,PySem.W.InstAt h x (PySem.W.instObj C dx) C (some od)/\∀ name,PySem.W.lookIn name od=some (mA name):=
 let ⟨od,ho,hl⟩:=vW I.ns
 ⟨od,⟨I.obj,rfl,rfl,ho⟩,hl⟩
section
variable {prog:Program} {w:World} {A:Around} {E:Value->Shared->Prop} {s:Shared} {K:PySem.W.Frag} {x dx C f:Addr} {mA:Str->Option Value} {name:Str} {v:Value}
theorem CL {expr:Bool} {Q:Value->Shared->Prop} (X:K.In s.heap) (I:tO s.heap x dx C mA) (hg:PySem.W.plainGet K C name=true) (hh:PySem.W.hasDictIn K C=true)
  (ha:PySem.W.findIn K (.ref C) name=some none) (hv:mA name=some v) (hv':PySem.W.handedIn v=true) (h:Q v { s with toks:=s.toks+1 }) :
  wpAny (model prog w) A (getAttr (.ref x) name expr) Q E s:=by
 obtain⟨od,J,hl⟩:=I.look
 exact PySem.W.get_value X J (PySem.W.plainGet_of hg).1 (PySem.W.findObj_own hh ha rfl (by rw [hl,hv])) hv' h
theorem Ar {pl:Sem Bool} {Q:Value×List Value->Shared->Prop} (X:K.In s.heap) (I:tO s.heap x dx C mA) (hg:PySem.W.plainGet K C name=true)
  (hf:PySem.W.findIn K (.ref C) name=some (some (.ref f))) (ht:PySem.W.isFn K (.ref f)=true) (hv:mA name=none) (h:Q (.ref f,[.ref x]) s) :
  wpAny (model prog w) A (getMethod (.ref x) name pl) Q E s:=by
 obtain⟨od,J,hl⟩:=I.look
 exact PySem.W.method_fn X J (PySem.W.plainGet_of hg).1 (PySem.W.plainGet_of hg).2 hf (beq_iff_eq.mp ht) (by show (PySem.W.lookIn name od).map (·.isSome)=some false;rw [hl,hv];rfl) h
theorem BG {ns:List Str} {Q:Unit->Shared->Prop} (X:K.In s.heap) (I:tO s.heap x dx C mA)
  (hs:PySem.W.findIn K (.ref C) "__setattr__" = some (some (.builtin "object.__setattr__"))) (hp:PySem.W.plainOver K C=true) (ht:PySem.W.takerIn K C name=some none) (hh:PySem.W.hasDictIn K C=true)
  (hw:PySem.Within mA ns) (hsz:ns.length≤sizeLine)
  (h:∀ h',tO h' x dx C (fun y=>if y=name then some v else mA y)->Heap.SameBut dx s.heap h'->Q () { s with heap:=h',toks:=s.toks+2 }) :
  wpAny (model prog w) A (setAttr (.ref x) name v) Q E s:=by
 obtain⟨od,J,hl⟩:=I.look
 refine PySem.W.set_plain X J hs (PySem.W.osa_open (s:={ s with toks:=s.toks+1 }) (r:=none) X J hp ht fun b=>?_)
 obtain⟨cd,hc,hd'⟩:=PySem.W.any_some hh
 have hx:s.heap.get? x=some ⟨.ref C,some dx,.plain,#[]⟩:=I.obj
 refine wpAny_bind (wpAny_pure (wpAny_bind (wpAny_bind (wpAny_loadPart hx (wpAny_bind (PySem.W.Looks.here (s:={ s with toks:=s.toks+1 }) (PySem.W.looks_clsIn X hc) ?_))))))
 rw [hd']
 refine wpAny_pure (a:=some dx) (wpAny_bind (wpAny_pure (wpAny_bind ?_)))
 refine wpAny_nsSet1 (s:={ s with toks:=s.toks+1 }) I.ns fun h' hn2 hs2=>?_
 obtain⟨oD,esD,epD,hoD,hdD,hcD⟩:=hn2.count (PySem.Within.cons name v hw)
 refine wpAny_bind (wpAny_lookBehind hoD (by rw [hdD];exact pastItsLine_dict (Nat.le_trans hcD (by rw [List.length_cons];omega))) ?_)
 exact wpAny_pure (h _ ⟨(hs2.2 _ (Ne.symm I.ne)).trans I.obj,hn2,I.ne⟩ hs2)
theorem Aa {R:Result->Shared->Prop} {vs:List Value} {kw:List (Str×Value)} (X:K.In s.heap) (hm:PySem.W.makesIn K C=true)
  (hi:PySem.W.findIn K (.ref C) "__init__" = some (some (.ref f))) (hf:PySem.W.typeIn K (.ref f)=some (.type "function"))
  (h:codeAny (model prog w) (A.under (.builtin "type.__call__" ⟨.ref C :: vs,kw⟩)) (.call (.ref f) ⟨.ref (s.heap.objs.size+1) :: vs,kw⟩) (PySem.W.InitBack (s.heap.objs.size+1) R)
   { s with heap:=(s.heap.push PySem.W.emptyDict).push (PySem.W.instObj C s.heap.objs.size) }) :
  codeAny (model prog w) A (.call (.ref C) ⟨vs,kw⟩) R s:=by
 obtain⟨hh,g,d,t,os⟩:=s
 exact PySem.W.make_core (PySem.W.makes_of X hm) (PySem.W.looks_findIn X hi) (fun self=>PySem.W.bind_fn X self hf) (.inl rfl) h
end
def gD (f:Str) (v:V):List (Str×V)->List (Str×V)
 | []=>[(f,v)]
 | (g,x) :: r=>if g=f then (g,v) :: r else (g,x) :: gD f v r
theorem j9 (f g:Str) (v:V):∀ fs:List (Str×V),(gD f v fs).lookup g=if g=f then some v else fs.lookup g
 | []=>by
  show List.lookup g [(f,v)]=_
  by_cases h:g=f
  ·have hb:(g == f)=true:=beq_iff_eq.mpr h
   simp only [List.lookup,hb,if_pos h]
  ·have hb:(g == f)=false:=beq_eq_false_iff_ne.mpr h
   simp only [List.lookup,hb,if_neg h]
 | (k,x) :: r=>by
  have ih:=j9 f g v r
  rw [show gD f v ((k,x) :: r)=(if k=f then (k,v) :: r else (k,x) :: gD f v r) from rfl]
  by_cases hk:k=f
  ·rw [if_pos hk]
   by_cases h:g=k
   ·have hb:(g == k)=true:=beq_iff_eq.mpr h
    simp only [List.lookup,hb,if_pos (h.trans hk)]
   ·have hb:(g == k)=false:=beq_eq_false_iff_ne.mpr h
    simp only [List.lookup,hb,if_neg (fun e:g=f=>h (e.trans hk.symm))]
  ·rw [if_neg hk]
   by_cases h:g=k
   ·have hb:(g == k)=true:=beq_iff_eq.mpr h
    simp only [List.lookup,hb,if_neg (fun e:g=f=>hk (h.symm.trans e))]
   ·have hb:(g == k)=false:=beq_eq_false_iff_ne.mpr h
    simp only [List.lookup,hb]
    exact ih
theorem jX (f:Str) (v:V):∀ fs:List (Str×V),f∈(gD f v fs).map (·.1)/\∀ g,g∈fs.map (·.1)->g∈(gD f v fs).map (·.1)
 | []=>⟨by simp [gD],fun g h=>by simp at h⟩
 | (k,x) :: r=>by
  obtain⟨i1,i2⟩:=jX f v r
  rw [show gD f v ((k,x) :: r)=(if k=f then (k,v) :: r else (k,x) :: gD f v r) from rfl]
  by_cases hk:k=f
  ·rw [if_pos hk]
   subst hk
   exact⟨by simp,fun g h=>by simpa using h⟩
  ·rw [if_neg hk]
   refine⟨?_,fun g h=>?_⟩
   ·rw [List.map_cons]
    exact List.mem_cons_of_mem _ i1
   ·rw [List.map_cons] at h ⊢
    rcases List.mem_cons.mp h with e | e
    ·exact List.mem_cons.mpr (.inl e)
    ·exact List.mem_cons_of_mem _ (i2 g e)
theorem kb (f:Str) (v:V):∀ fs:List (Str×V),(gD f v fs).length≤fs.length+1
 | []=>by simp [gD]
 | (k,x) :: r=>by
  have ih:=kb f v r
  rw [show gD f v ((k,x) :: r)=(if k=f then (k,v) :: r else (k,x) :: gD f v r) from rfl]
  by_cases hk:k=f
  ·rw [if_pos hk,List.length_cons,List.length_cons];omega
  ·rw [if_neg hk,List.length_cons,List.length_cons];omega
theorem gX.some_of {v:V} {o:Option Value} (r:gX (some v) o):∃ u,o=some u/\aZ v u:=by
 cases o with
 | none=>exact (show False from r).elim
 | some u=>exact⟨u,rfl,r⟩
theorem gX.none_of {o:Option Value} (r:gX none o):o=none:=by
 cases o with
 | none=>rfl
 | some u=>exact (show False from r).elim
theorem we {v:V} {u:Value} (r:aZ v u):PySem.W.handedIn u=true:=by
 cases v with
 | non=>cases (show u=Value.none from r);rfl
 | bl b=>cases (show u=Value.bool b from r);rfl
 | int i=>obtain⟨t,e⟩:=(show ∃ t,u=Value.int i t from r);cases e;rfl
 | str x=>obtain⟨t,e⟩:=(show ∃ t,u=Value.str x t from r);cases e;rfl
 | byt b=>obtain⟨t,e⟩:=(show ∃ t,u=Value.bytes b t from r);cases e;rfl
 | flt b=>obtain⟨t,e⟩:=(show ∃ t,u=Value.float b t from r);cases e;rfl
 | ref a=>cases (show u=Value.ref a from r);rfl
 | ty n=>cases (show u=Value.type n from r);rfl
section
variable {P:Program} {w:World} {H H':Hp} {h h':Heap} {a C dx:Addr} {fs fs':List (Str×V)}
theorem kL (hok:iR P w H h) (e:H a=some (.ins C dx fs)):∃ mA,tO h a dx C mA/\(∀ f,gX (fs.lookup f) (mA f))/\PySem.Within mA (fs.map (·.1))/\fs.length≤1000/\H dx=some (.own a):=by
 obtain⟨d,z,ne,ob,mA,n,r,q⟩:=(show bE P w H h a (.ins C dx fs) from hok a _ e)
 exact⟨mA,⟨ob,n,ne⟩,r,q,z,d⟩
end
structure tT (K:PySem.W.Frag) (C:Addr):Prop where
 pg:PySem.W.plainGet K C Str.empty=true
 hd:PySem.W.hasDictIn K C=true
 po:PySem.W.plainOver K C=true
 sa:PySem.W.findIn K (.ref C) "__setattr__" = some (some (.builtin "object.__setattr__"))
theorem tT.get {K:PySem.W.Frag} {C:Addr} (c:tT K C) (f:Str):PySem.W.plainGet K C f=true:=c.pg
def dC (K:PySem.W.Frag) (C:Addr) (f:Str):Prop:=PySem.W.findIn K (.ref C) f=some none
theorem dC.taker {K:PySem.W.Frag} {C:Addr} {f:Str} (n:dC K C f):PySem.W.takerIn K C f=some none:=by
 unfold PySem.W.takerIn
 rw [show PySem.W.findIn K (.ref C) f=some none from n]
 rfl
structure NL (K:PySem.W.Frag) (C:Addr) (f:Str) (v:V) (u:Value):Prop where
 at_:PySem.W.findIn K (.ref C) f=some (some u)
 rel:aZ v u
 get:PySem.W.specialIn K u "__get__" = some none
 cp:PySem.W.copiedNames.contains f=false
structure mG (K:PySem.W.Frag) (C:Addr) (m:Str) (f:Addr):Prop where
 at_:PySem.W.findIn K (.ref C) m=some (some (.ref f))
 fn:PySem.W.isFn K (.ref f)=true
 kp:PySem.W.keepIn K (.ref f)=true
section
variable {X:Cx} {pins:List (Addr×Obj)} {σ:St} {H:Hp} {s:Shared} {a C dx:Addr} {fs:List (Str×V)} {f:Str} {v:V} {A:Around} {E:Value->Shared->Prop}
theorem mh {b:Bool} {Q:Value->Shared->Prop} (I:Inv X pins σ H s) (e:H a=some (.ins C dx fs)) (c:tT X.K C) (n:dC X.K C f) (l:fs.lookup f=some v)
  (h:∀ u s',Inv X pins σ H s'->aZ v u->Q u s'):wpAny (model X.prog X.w) A (getAttr (.ref a) f b) Q E s:=by
 obtain⟨mA,O,r,_,_,_⟩:=kL I.hok e
 obtain⟨u,hu,ru⟩:=gX.some_of (v:=v) (o:=mA f) (by rw [← l];exact r f)
 exact CL I.kIn O (c.get f) c.hd n hu (we ru) (h u _ (I.tok _) ru)
theorem mf {m:Str} {g:Addr} {pl:Sem Bool} {Q:Value×List Value->Shared->Prop} (I:Inv X pins σ H s) (e:H a=some (.ins C dx fs)) (c:tT X.K C) (k:mG X.K C m g) (l:fs.lookup m=none)
  (h:Q (.ref g,[.ref a]) s):wpAny (model X.prog X.w) A (getMethod (.ref a) m pl) Q E s:=by
 obtain⟨mA,O,r,_,_,_⟩:=kL I.hok e
 have hn:mA m=none:=gX.none_of (by rw [← l];exact r m)
 exact Ar I.kIn O (c.get m) k.at_ k.fn hn h
theorem lM {y:V} {u:Value} {Q:Unit->Shared->Prop} (I:Inv X pins σ H s) (e:H a=some (.ins C dx fs)) (c:tT X.K C) (n:dC X.K C f) (hl:fs.length < 1000) (ry:aZ y u)
  (h:∀ s',Inv X pins σ (aG H a (.ins C dx (gD f y fs))) s'->Q () s'):wpAny (model X.prog X.w) A (setAttr (.ref a) f u) Q E s:=by
 obtain⟨mA,O,r,wi,_,ho⟩:=kL I.hok e
 have hz:(fs.map (·.1)).length≤sizeLine:=by rw [List.length_map,sizeLine_eq];omega
 refine BG I.kIn O c.sa c.po n.taker c.hd wi hz fun h' O' sb=>h _ ?_
 have hd:∃ o,h'.get? dx=some o:=let ⟨o,_,_,e',_⟩:=O'.ns;⟨o,e'⟩
 refine I.write (x:=a) (e:=dx) (by rw [e];exact True.intro) (.inr ho) (fun b q hb z=>(sb.2 b hb).trans z) hd ?_
 refine⟨by rw [az O.ne];exact ho,?_,O.ne,O'.obj,_,O'.ns,fun g=>?_,fun g hg=>?_⟩
 ·have:=kb f y fs;omega
 ·show gX ((gD f y fs).lookup g) (if g=f then some u else mA g)
  rw [j9]
  by_cases q:g=f
  ·rw [if_pos q,if_pos q];exact ry
  ·rw [if_neg q,if_neg q];exact r g
 ·by_cases q:g=f
  ·rw [q];exact (jX f y fs).1
  ·refine (jX f y fs).2 g (wi g fun z=>hg ?_)
   show (if g=f then some u else mA g)=none
   rw [if_neg q];exact z
theorem Inv.made (I:Inv X pins σ H s):Inv X pins σ (aG (aG H s.heap.objs.size (.own (s.heap.objs.size+1))) (s.heap.objs.size+1) (.ins C s.heap.objs.size []))
  { s with heap:=(s.heap.push PySem.W.emptyDict).push (PySem.W.instObj C s.heap.objs.size) }:=by
 have e1:(s.heap.push PySem.W.emptyDict).get? s.heap.objs.size=some PySem.W.emptyDict:=Heap.get?_push_size s.heap rfl
 have e2:((s.heap.push PySem.W.emptyDict).push (PySem.W.instObj C s.heap.objs.size)).get? (s.heap.objs.size+1)=some (PySem.W.instObj C s.heap.objs.size):=by
  have:=Heap.get?_push_size (s.heap.push PySem.W.emptyDict) (o:=PySem.W.instObj C s.heap.objs.size) rfl
  rwa [Heap.size_push] at this
 have e3:(s.heap.push PySem.W.emptyDict).Ns s.heap.objs.size (fun _=>none):=⟨PySem.W.emptyDict,#[],_,e1,rfl,(fun e he=>absurd he (by simp)),fun _=>rfl⟩
 have I1:=I.laid (a:=s.heap.objs.size) (o:=.own (s.heap.objs.size+1)) (h':=s.heap.push PySem.W.emptyDict) (t':=s.toks) (fun b u q=>Heap.get?_push_of_some _ q) (Nat.le_refl _) ⟨_,e1⟩
 refine I1.laid (a:=s.heap.objs.size+1) (o:=.ins C s.heap.objs.size []) (t':=s.toks) (fun b u q=>Heap.get?_push_of_some _ q) (Nat.le_of_eq (Heap.size_push _ _)) ?_
 have ne:s.heap.objs.size≠s.heap.objs.size+1:=Nat.ne_of_lt (Nat.lt_succ_self _)
 refine⟨by rw [az ne,ai],Nat.zero_le _,ne,e2,fun _=>none,(Heap.Ns1.of_empty e3).at fun o q=>Heap.get?_push_of_some _ q,fun _=>True.intro,fun y hy=>absurd rfl hy⟩
theorem C2 {prog:Program} {w:World} {env:Env} {e:Expr} {f:Str} {pos:Pos} {s:Shared} {Q:Value->Shared->Prop} (hb:attributeBase e f env (eval e env)=eval e env)
  (h:wpAny (model prog w) A (eval e env) (fun o s₁=>wpAny (model prog w) A (getAttr o f true) Q E s₁) E s):wpAny (model prog w) A (eval (.Attribute e f pos) env) Q E s:=
 Attribute_any_ h (by rw [arm_eval_Attribute,hb])
end
inductive Jz (K:PySem.W.Frag) (H:Hp) (x:V) (f:Str) (Q:V->Prop):Prop where
 | mk (a C dx:Addr) (fs:List (Str×V)) (v:V) (e:x=.ref a) (h:H a=some (.ins C dx fs)) (c:tT K C) (n:dC K C f) (l:fs.lookup f=some v) (k:Q v):Jz K H x f Q
def Hv (K:PySem.W.Frag) (ta:TE) (f:Str):TE:=fun σ H Q=>ta σ H fun x H1=>Jz K H1 x f fun v=>Q v H1
def MP (K:PySem.W.Frag) (ta:TE) (f:Str):TE:=fun σ H Q=>ta σ H fun x H1=>∃ a C dx fs v u,x=.ref a/\H1 a=some (.ins C dx fs)/\tT K C/\NL K C f v u/\fs.lookup f=none/\Q v H1
def HS (K:PySem.W.Frag) (ta tv:TE) (f:Str):TS:=fun D σ H=>tv σ H fun y H1=>ta σ H1 fun x H2=>∃ a C dx fs,x=.ref a/\H2 a=some (.ins C dx fs)/\tT K C/\dC K C f/\fs.length < 1000∧
 D.nx σ (aG H2 a (.ins C dx (gD f y fs)))
def GO (X:Cx) (op:Operator) (rd:V->V->Hp->VK->Prop):Prop:=
 ∀ (pins:List (Addr×Obj)) (s:Shared) (σ:St) (H:Hp) (x y:V) (u v:Value) (Q:VK),Inv X pins σ H s->aZ x u->aZ y v->rd x y H Q->wpAny (model X.prog X.w) X.A (inplaceOp op u v) (EP X pins σ Q) X.xe s
def uo (K:PySem.W.Frag) (ta tv:TE) (rd:V->V->Hp->VK->Prop) (f:Str):TS:=fun D σ H=>ta σ H fun x H1=>∃ a C dx fs v,x=.ref a/\H1 a=some (.ins C dx fs)/\tT K C/\dC K C f/\fs.lookup f=some v∧
 tv σ H1 fun y H2=>rd v y H2 fun z H3=>∃ dx' fs',H3 a=some (.ins C dx' fs')/\fs'.length < 1000/\D.nx σ (aG H3 a (.ins C dx' (gD f z fs')))
section
variable {X:Cx} {o e value:Expr} {f:Str} {pos pos' tpos:Pos} {ta tv:TE}
theorem Fo (he:PE X e ta) (hb:attributeBase e f X.env (eval e X.env)=eval e X.env):PE X (.Attribute e f pos) (Hv X.K ta f):=by
 intro pins s σ H Q I h
 refine C2 hb (bX (he pins s σ H _ I h) fun u s1 ⟨x,H1,I1,rx,a,C,dx,fs,v,ex,ea,c,n,l,q⟩=>?_)
 subst ex
 obtain rfl:u=Value.ref a:=rx
 exact mh I1 ea c n l fun u' s2 I2 ru=>⟨v,H1,I2,ru,q⟩
theorem E9 (ha:PE X o ta) (hv:PE X value tv) (hs:swapsWith value (some (.Attribute o f pos')) pos.line X.env=pure false):PS X (.Assign [.Attribute o f pos'] value pos) (HS X.K ta tv f):=by
 intro pins s σ H D I h
 refine plainObj_wpAny_Assign_Attribute (bX (hv pins s σ H _ I h) fun u s1 ⟨y,H1,I1,ry,q⟩=>bX (ha pins s1 σ H1 _ I1 q) fun ov s2 ⟨x,H2,I2,rx,a,C,dx,fs,ex,ea,c,n,l,q2⟩=>?_) hs
 subst ex
 obtain rfl:ov=Value.ref a:=rx
 exact lM I2 ea c n l ry fun s3 I3=>⟨σ,_,I3,q2⟩
theorem vO {op:Operator} {rd:V->V->Hp->VK->Prop} (ha:PE X o ta) (hv:PE X value tv) (hop:GO X op rd):PS X (.AugAssign (.Attribute o f tpos) op value pos) (uo X.K ta tv rd f):=by
 intro pins s σ H D I h
 refine wpAny_AugAssign_AttributeAny (bX (ha pins s σ H _ I h) fun ov s1 ⟨x,H1,I1,rx,a,C,dx,fs,v,ex,ea,c,n,l,q⟩=>?_)
 subst ex
 obtain rfl:ov=Value.ref a:=rx
 refine mh I1 ea c n l fun u s2 I2 ru=>bX (hv pins s2 σ H1 _ I2 q) fun w3 s3 ⟨y,H2,I3,ry,q3⟩=>bX (hop pins s3 σ H2 v y u w3 _ I3 ru ry q3) fun w4 s4 ⟨z,H3,I4,rz,dx',fs',ea',l',q4⟩=>?_
 exact lM I4 ea' c n l' rz fun s5 I5=>⟨σ,_,I5,q4⟩
def Kt:V->V->Hp->VK->Prop:=fun x y H Q=>Jy x y fun i j=>Q (.int (i+j)) H
def MY:V->V->Hp->VK->Prop:=fun x y H Q=>Jy x y fun i j=>Q (.int (i - j)) H
theorem Gm:GO X .Add Kt:=by
 rintro pins s σ H x y u v Q I rx ry ⟨i,j,rfl,rfl,q⟩
 obtain⟨t,rfl⟩:=(show ∃ t,u=Value.int i t from rx)
 obtain⟨t',rfl⟩:=(show ∃ t',v=Value.int j t' from ry)
 exact PyProof.Rows.iadd_int ⟨.int (i+j),H,I.tok _,⟨_,rfl⟩,q⟩
end
section
variable {X:Cx} {pins:List (Addr×Obj)} {σ:St} {H:Hp} {s:Shared} {A:Around} {E:Value->Shared->Prop} {Q:Value->Shared->Prop} {c:Value} {b:Bool}
inductive j4 (K:PySem.W.Frag) (H:Hp):V->Value->Prop where
 | non:j4 K H .non (.type "NoneType")
 | bl (x:Bool):j4 K H (.bl x) (.type "bool")
 | int (i:Int):j4 K H (.int i) (.type "int")
 | str (x:Str):j4 K H (.str x) (.type "str")
 | flt (x:UInt64):j4 K H (.flt x) (.type "float")
 | lst {a:Addr} {xs:List V} (e:H a=some (.lst xs)):j4 K H (.ref a) (.type "list")
 | frz {a:Addr} {o:Obj} {xs:List V} (e:H a=some (.frz o (.lst xs))):j4 K H (.ref a) (.type "list")
 | tup {a:Addr} {xs:List V} (e:H a=some (.tup xs)):j4 K H (.ref a) (.type "tuple")
 | dK {a:Addr} {kvs:List (cP×V)} (e:H a=some (.dK kvs)):j4 K H (.ref a) (.type "dict")
 | dT {a:Addr} {kvs:List (List cP×V)} (e:H a=some (.dT kvs)):j4 K H (.ref a) (.type "dict")
 | ins {a C dx:Addr} {fs:List (Str×V)} (e:H a=some (.ins C dx fs)) (cl:tT K C) (ha:PySem.W.findIn K (.ref C) "__class__" = some (some (.builtin "object.__class__")))
   (hn:PySem.W.specialIn K (.builtin "object.__class__") "__get__" = some (some (.builtin "getset_descriptor.__get__"))) (htk:PySem.W.takesIn K (.builtin "object.__class__")=some true)
   (hm:PySem.W.mroIn K C (.type "object")=some true):j4 K H (.ref a) (.ref C)
theorem v8 {x:V} {u t:Value} (I:Inv X pins σ H s) (rx:aZ x u) (ty:j4 X.K H x t) (e:PySem.W.kitOne X.K t c=some b) (h:∀ tk,Q (.bool b) { s with toks:=tk }) :
  wpAny (model X.prog X.w) A (call (.builtin "isinstance") [u,c]) Q E s:=by
 cases ty with
 | non=>cases (show u=Value.none from rx);exact PySem.W.kia_one PySem.W.kitx_none I.kIn True.intro e (fun z=>nomatch z) h
 | bl y=>cases (show u=Value.bool y from rx);exact PySem.W.kia_one PySem.W.kitx_bool I.kIn True.intro e (fun z=>nomatch z) h
 | int i=>obtain⟨t,q⟩:=(show ∃ t,u=Value.int i t from rx);cases q;exact PySem.W.kia_one PySem.W.kitx_int I.kIn True.intro e (fun z=>nomatch z) h
 | str y=>obtain⟨t,q⟩:=(show ∃ t,u=Value.str y t from rx);cases q;exact PySem.W.kia_one PySem.W.kitx_str I.kIn True.intro e (fun z=>nomatch z) h
 | flt y=>obtain⟨t,q⟩:=(show ∃ t,u=Value.float y t from rx);cases q;exact PySem.W.kia_one PySem.W.kitx_float I.kIn True.intro e (fun z=>nomatch z) h
 | @lst a xs ea=>
  cases (show u=Value.ref a from rx)
  obtain⟨_,_,n,_,h1⟩:=(show bE X.prog X.w H s.heap a (.lst xs) from I.hok a _ ea)
  exact PySem.W.kia_one PySem.W.kitx_list I.kIn ⟨_,h1,rfl⟩ e (fun z=>nomatch z) h
 | @frz a ob xs ea=>
  cases (show u=Value.ref a from rx)
  obtain⟨_,_,_,n,_,h1⟩:=(show bE X.prog X.w H s.heap a (.frz ob (.lst xs)) from I.hok a _ ea)
  exact PySem.W.kia_one PySem.W.kitx_list I.kIn ⟨_,h1,rfl⟩ e (fun z=>nomatch z) h
 | @tup a xs ea=>
  cases (show u=Value.ref a from rx)
  obtain⟨_,_,_,p⟩:=(show bE X.prog X.w H s.heap a (.tup xs) from I.hok a _ ea)
  obtain⟨o,h1,h2,_⟩:=p
  exact PySem.W.kia_one PySem.W.kitx_tuple I.kIn ⟨o,h1,h2⟩ e (fun z=>nomatch z) h
 | @dK a kvs ea=>
  cases (show u=Value.ref a from rx)
  obtain⟨_,_,vs,_,p⟩:=(show bE X.prog X.w H s.heap a (.dK kvs) from I.hok a _ ea)
  obtain⟨o,es,ep,h1,h2,_⟩:=p
  exact PySem.W.kia_one PySem.W.kitx_dict I.kIn ⟨o,h1,h2.1⟩ e (fun z=>nomatch z) h
 | @dT a kvs ea=>
  cases (show u=Value.ref a from rx)
  obtain⟨_,_,xs,_,o,es,ep,h1,h2,_⟩:=(show bE X.prog X.w H s.heap a (.dT kvs) from I.hok a _ ea)
  exact PySem.W.kia_one PySem.W.kitx_dict I.kIn ⟨o,h1,h2.1⟩ e (fun z=>nomatch z) h
 | @ins a C dx fs ea cl ha hn htk hm=>
  cases (show u=Value.ref a from rx)
  obtain⟨mA,O,_⟩:=kL I.hok ea
  obtain⟨od,J,_⟩:=O.look
  exact PySem.W.kia_one (PySem.W.kitx_own (cl.get _) cl.hd ha hn htk hm) I.kIn J e (fun z=>nomatch z) h
end
end L2
namespace L2
open PySem PySem.Spec PyProof.Rows
structure cW (k:Nat) (A:Around):Prop where
 hd:A.handled=none
 dp:A.depth+3 * k+5 < recursionLimit
 un:A.units+16 * k+200 < cLine
 gd:A.guards=some []
theorem cW.mono {j k:Nat} {A:Around} (r:cW k A) (h:j≤k):cW j A:=⟨r.hd,by have:=r.dp;omega,by have:=r.un;omega,r.gd⟩
theorem cW.deeper {k:Nat} {A:Around} (r:cW (k+1) A) (env:Env):cW k (A.deeper env):=
 ⟨r.hd,by have:=r.dp;show A.depth+1+3 * k+5 < _;omega,by have:=r.un;show A.units+3+16 * k+200 < _;omega,r.gd⟩
theorem sP {A:Around} {C:Addr} {us:List Value} {kw:List (Str×Value)}:(A.under (.builtin "type.__call__" ⟨.ref C :: us,kw⟩)).depth=A.depth+1:=by
 first | rfl | simp [Around.under,Code.weight,Code.isCreation,Code.isGuard,Code.isCaller,Code.frames,Code.isFrame,guardIds]
theorem sO {A:Around} {C:Addr} {us:List Value} {kw:List (Str×Value)}:(A.under (.builtin "type.__call__" ⟨.ref C :: us,kw⟩)).units=A.units+1:=by
 first | rfl | simp [Around.under,Code.cUnits,Code.frames,Code.isFrame]
theorem qP {A:Around} {C:Addr} {us:List Value} {kw:List (Str×Value)}:(A.under (.builtin "type.__call__" ⟨.ref C :: us,kw⟩)).guards=A.guards:=by
 first | rfl | simp [Around.under,Code.guards,Code.isGuard,guardIds,pushGuards]
theorem cW.make {k:Nat} {A:Around} (r:cW (k+1) A) (C:Addr) (us:List Value) (kw:List (Str×Value)):cW k (A.under (.builtin "type.__call__" ⟨.ref C :: us,kw⟩)):=
 ⟨r.hd,by have:=r.dp;rw [sP];omega,by have:=r.un;rw [sO];omega,by rw [qP];exact r.gd⟩
theorem cW.depth {k:Nat} {A:Around} (r:cW k A):A.depth < recursionLimit:=by have:=r.dp;omega
theorem cW.units {k:Nat} {A:Around} (r:cW k A):A.units+64 < cLine:=by have:=r.un;omega
def vx:TA:=fun _ H Q=>Q [] H
def Dr (ta:TE) (tr:TA):TA:=fun σ H Q=>ta σ H fun x H1=>tr σ H1 fun xs H2=>Q (x :: xs) H2
section
variable {X:Cx} {e:Expr} {es:List Expr} {te:TE} {t:TA} {pos:Pos}
theorem Fq:PA X [] vx:=fun _ _ _ _ H Q I h=>Calls.spliced_nil ⟨[],H,I,.nil,h⟩
theorem Cg (ha:PE X e te) (hr:PA X es t) (hs:starEach (e :: es) X.env=(false,eval e X.env) :: starEach es X.env:=by rfl):PA X (e :: es) (Dr te t):=by
 intro pos pins s σ H Q I h
 rw [hs]
 show wpAny _ _ (spliced ((false,eval e X.env) :: backTo pos (starEach es X.env))) _ _ s
 refine Calls.spliced_cons (bX (ha pins s σ H _ I h) fun u s1 ⟨x,H1,I1,r1,q1⟩=>?_)
 exact bX (hr pos pins s1 σ H1 _ I1 q1) fun us s2 ⟨xs,H2,I2,r2,q2⟩=>⟨x :: xs,H2,I2,.cons r1 r2,q2⟩
def Hn (t:TA):TE:=fun σ H Q=>t σ H fun xs H1=>xs.length≤sizeLine/\∀ p,H1 p=none->Q (.ref p) (aG H1 p (.tup xs))
def Hs (t:TA):TE:=fun σ H Q=>t σ H fun xs H1=>xs.length≤sizeLine/\∀ p,H1 p=none->Q (.ref p) (aG H1 p (.lst xs))
theorem Fh {x1} (h:PA X es t):PE X (.Tuple es x1 pos) (Hn t):=by
 intro pins s σ H Q I hq
 refine wpAny_Tuple_spliced (bX (h pos pins s σ H _ I hq) fun us s1 ⟨xs,H1,I1,r,z,q⟩=>⟨by rw [← r.length];exact z,?_⟩)
 have hf:H1 s1.heap.objs.size=none:=I1.hok.fresh (Nat.le_refl _)
 refine⟨.ref s1.heap.objs.size,aG H1 s1.heap.objs.size (.tup xs),I1.laid (t':=s1.toks) (fun b u e=>Heap.get?_push_of_some _ e) (Nat.le_refl _) ?_,rfl,q _ hf⟩
 exact⟨z,us,r,⟨_,Heap.get?_push_size _ rfl,rfl,_,rfl⟩⟩
theorem Fm (h:PA X es t):PE X (.List es pos) (Hs t):=by
 intro pins s σ H Q I hq
 refine wpAny_List_spliced (bX (h pos pins s σ H _ I hq) fun us s1 ⟨xs,H1,I1,r,z,q⟩=>⟨by rw [← r.length];exact z,?_⟩)
 have hf:H1 s1.heap.objs.size=none:=I1.hok.fresh (Nat.le_refl _)
 refine⟨.ref s1.heap.objs.size,aG H1 s1.heap.objs.size (.lst xs),I1.laid (t':=s1.toks) (fun b u e=>Heap.get?_push_of_some _ e) (Nat.le_refl _) ?_,rfl,q _ hf⟩
 exact⟨z,us,0,r,Heap.get?_push_size _ rfl⟩
end
abbrev Sp:=List V->Hp->VK->XK->Prop
abbrev rG:=List Env->Hp->Shared->XK->Value->Shared->Prop
structure rE (P:Program) (w:World) (K:PySem.W.Frag) (mg:Str->Option Value) (base:Heap) (A:Around) (outer:List Env) (s:Shared) (H:Hp):Prop where
 frames:A.frames=some outer
 mod:Mod K mg base
 bs:∀ b o,base.get? b=some o->s.heap.get? b=some o/\H b=none
 bsz:base.objs.size≤s.heap.objs.size
 funs:s.heap.FunFrames base outer
 frf:∀ b∈uI outer,H b=none
 hok:iR P w H s.heap
 bare:AllBare s.gens
def CE (outer:List Env) (P:Program) (w:World) (H:Hp) (s:Shared) (Q:VK) (u:Value) (s':Shared):Prop:=
 ∃ v H',s'.os=s.os/\AllBare s'.gens/\Un (uI outer) [] H H' s.heap s'.heap/\iR P w H' s'.heap/\aZ v u/\Q v H'
def CR (CX:rG) (outer:List Env) (P:Program) (w:World) (H:Hp) (s:Shared) (Q:VK) (E:XK) (r:Result) (s':Shared):Prop:=
 match r with
 | .ok (.ret u)=>CE outer P w H s Q u s'
 | .ok _=>False
 | .error e=>CX outer H s E e s'
structure bo (P:Program) (w:World) (K:PySem.W.Frag) (mg:Str->Option Value) (base:Heap) (CX:rG) (k:Nat) (f:Addr) (fd:FuncData) (ps:List Str) (sp:Sp):Prop where
 len:∀ vs H Q E,sp vs H Q E->vs.length=ps.length
 run:∀ (A:Around) (outer:List Env) (s:Shared) (H:Hp) (args:Args) (us:List Value) (vs:List V) (Q:VK) (E:XK),cW k A->rE P w K mg base A outer s H->BindsTo s fd args (ps.zip us)->aX vs us->sp vs H Q E→
  codeAny (model P w) A (.call (.ref f) args) (CR CX outer P w H s Q E) s
theorem rE.make {P:Program} {w:World} {K:PySem.W.Frag} {mg:Str->Option Value} {base:Heap} {A:Around} {outer:List Env} {s:Shared} {H:Hp} (e:rE P w K mg base A outer s H) (C:Addr) (us:List Value) (kw:List (Str×Value)) :
  rE P w K mg base (A.under (.builtin "type.__call__" ⟨.ref C :: us,kw⟩)) outer s H:=⟨by first | exact e.frames | (simpa [Around.under,Code.envs,Code.isFrame,pushEnvs] using e.frames),e.mod,e.bs,e.bsz,e.funs,e.frf,e.hok,e.bare⟩
section
variable {X:Cx} {pins:List (Addr×Obj)} {σ:St} {H:Hp} {s s':Shared}
theorem Inv.env0 (I:Inv X pins σ H s):rE X.prog X.w X.K X.mg X.base X.A X.stack s H:=
 ⟨I.ok.frames,I.ok.mod,I.bs,Nat.le_trans I.ok.bsz I.sz,I.stack,I.stkFree,I.hok,I.bare⟩
theorem Inv.after {Q:VK} {u:Value} (I:Inv X pins σ H s) (h:CE X.stack X.prog X.w H s Q u s'):EP X pins σ Q u s':=by
 obtain⟨v,H',os,bare,un,hok,r,q⟩:=h
 obtain⟨hh,g,d,t,os'⟩:=s'
 obtain rfl:os'=s.os:=os
 exact⟨v,H',I.call (h':=hh) (g':=g) (d':=d) (t':=t) (ch:=[]) un hok bare (fun b z=>absurd z (by simp)),r,q⟩
end
def xy (sp:Sp) (dvs:List V) (E:XK) (t:TA):TE:=fun σ H Q=>t σ H fun vs H1=>sp (vs++dvs) H1 Q E
def ue (C:Addr) (m:Str) (sp:Sp) (dvs:List V) (E:XK) (ta:TE) (t:TA):TE:=fun σ H Q=>ta σ H fun x H1=>∃ a dx fs,x=.ref a/\H1 a=some (.ins C dx fs)/\fs.lookup m=none∧
 t σ H1 fun vs H2=>sp (x :: (vs++dvs)) H2 Q E
def Do (C:Addr) (sp:Sp) (dvs:List V) (E:XK) (t:TA):TE:=fun σ H Q=>t σ H fun vs H1=>∀ x dx,H1 x=none->H1 dx=none->dx≠x→
 sp (.ref x :: (vs++dvs)) (aG (aG H1 dx (.own x)) x (.ins C dx [])) (fun v H2=>v=.non/\Q (.ref x) H2) E
def aL (K:PySem.W.Frag) (fd:FuncData) (ps:List Str) (ds:List Value):Prop:=
 ∀ (s:Shared) (us:List Value),K.In s.heap->(us++ds).length=ps.length->BindsTo s fd ⟨us,[]⟩ (ps.zip (us++ds))
theorem aL.all {K:PySem.W.Frag} {fd:FuncData} {ps:List Str} (h:∀ us:List Value,us.length=ps.length->bindArgs fd ⟨us,[]⟩=pure (ps.zip us)):aL K fd ps []:=fun s us _ hl=>by
 rw [List.append_nil] at hl ⊢
 exact .of_eq (h us hl)
def fi (CX:rG) (X:Cx) (E:XK):Prop:=∀ (pins:List (Addr×Obj)) (σ:St) (H:Hp) (s:Shared) (e:Value) (s':Shared),Inv X pins σ H s->CX X.stack H s E e s'->X.xe e s'
section
variable {X:Cx} {CX:rG} {k:Nat} {f C:Addr} {fd:FuncData} {ps:List Str} {sp:Sp} {dvs:List V} {ds:List Value} {E:XK} {x m:Str} {p pos apos:Pos} {e o:Expr} {es:List Expr} {ta:TE} {t:TA}
theorem se {pins:List (Addr×Obj)} {σ:St} {H:Hp} {s:Shared} {Q:VK} {us:List Value} {vs:List V} (F:bo X.prog X.w X.K X.mg X.base CX k f fd ps sp) (hr:cW k X.A) (hb:aL X.K fd ps ds) (hd:aX dvs ds) (hx:fi CX X E)
  (I:Inv X pins σ H s) (r:aX vs us) (h:sp (vs++dvs) H Q E):wpAny (model X.prog X.w) X.A (call (.ref f) us) (EP X pins σ Q) X.xe s:=by
 have r2:aX (vs++dvs) (us++ds):=r.append hd
 have hl:(us++ds).length=ps.length:=by rw [← r2.length];exact F.len _ _ _ _ h
 refine wpAny_call (codeAny_mono (F.run X.A X.stack s H ⟨us,[]⟩ (us++ds) (vs++dvs) Q E hr I.env0 (hb s us I.kIn hl) r2 h) fun r s' hq=>?_)
 cases r with
 | error e=>exact hx pins σ H s e s' I hq
 | ok fl=>
  cases fl with
  | ret u=>exact I.after hq
  | next=>exact False.elim hq
  | brk=>exact False.elim hq
  | cont=>exact False.elim hq
theorem Ce (F:bo X.prog X.w X.K X.mg X.base CX k f fd ps sp) (hr:cW k X.A) (hg:Gl X x) (hm:X.mg x=some (.ref f)) (hk:PySem.W.keepIn X.K (.ref f)=true) (hb:aL X.K fd ps ds) (hd:aX dvs ds) (hx:fi CX X E)
  (ha:PA X (e :: es) t) (hdb:(x == ("__debug__" : Str))=false:=by decide) (he:starEach (e :: es) X.env=(false,eval e X.env) :: starEach es X.env:=by rfl) (hpl:(backTo pos (starEach es X.env)).any (·.1)=false:=by rfl) :
  PE X (.Call (.Name x p) (e :: es) [] pos) (xy sp dvs E t):=by
 intro pins s σ H Q I h
 refine wpAny_Call_Name_kw (pK I hg hm ?_ hdb)
 refine PySem.W.callWith_K (h₀:=X.base) I.ok.mod.kin hk (bX (ha pos pins s σ H _ I h) fun us s1 ⟨vs,H1,I1,r,q⟩=>⟨I1.kIn,?_⟩) he hpl
 exact se F hr hb hd hx I1 r q
theorem Cb {pl:Sem Bool} (he:PE X o ta) (c:tT X.K C) (hm:mG X.K C m f) (F:bo X.prog X.w X.K X.mg X.base CX k f fd ps sp) (hr:cW k X.A) (hb:aL X.K fd ps ds) (hd:aX dvs ds) (hx:fi CX X E) (ha:PA X (e :: es) t)
  (hst:starEach (e :: es) X.env=(false,eval e X.env) :: starEach es X.env:=by rfl) (hpl:(backTo pos (starEach es X.env)).any (·.1)=false:=by rfl)
  (ht:eval (.Call (.Attribute o m apos) (e :: es) [] pos) X.env=(do
   let ov ← eval o X.env
   standAt apos.atName
   let (f,first) ← holding [ov] (getMethod ov m pl)
   callWith pos f first (backTo pos (starEach (e :: es) X.env)) (backToKw pos (keywordEach [] X.env))):=by rfl) :
  PE X (.Call (.Attribute o m apos) (e :: es) [] pos) (ue C m sp dvs E ta t):=by
 intro pins s σ H Q I h
 refine PySem.W.methodCall_KW (pl:=pl) (bX (he pins s σ H _ I h) fun u s1 ⟨x,H1,I1,rx,a,dx,fs,ex,ea,l,q⟩=>?_) ht
 subst ex
 obtain rfl:u=Value.ref a:=rx
 refine mf I1 ea c hm l ?_
 refine PySem.W.callWith_K (first:=[.ref a]) (h₀:=X.base) I.ok.mod.kin hm.kp (bX (ha pos pins s1 σ H1 _ I1 q) fun us s2 ⟨vs,H2,I2,r,q2⟩=>⟨I2.kIn,?_⟩) hst hpl
 exact se (us:=.ref a :: us) (vs:=.ref a :: vs) F hr hb hd hx I2 (.cons rfl r) q2
theorem zx {pl:Sem Bool} (he:PE X o ta) (c:tT X.K C) (hm:mG X.K C m f) (F:bo X.prog X.w X.K X.mg X.base CX k f fd ps sp) (hr:cW k X.A) (hb:aL X.K fd ps ds) (hd:aX dvs ds) (hx:fi CX X E)
  (ht:eval (.Call (.Attribute o m apos) [] [] pos) X.env=(do
   let ov ← eval o X.env
   standAt apos.atName
   let (f,first) ← holding [ov] (getMethod ov m pl)
   callWith pos f first (backTo pos (starEach [] X.env)) (backToKw pos (keywordEach [] X.env))):=by rfl) :
  PE X (.Call (.Attribute o m apos) [] [] pos) (ue C m sp dvs E ta vx):=by
 intro pins s σ H Q I h
 refine PySem.W.methodCall_KW (pl:=pl) (bX (he pins s σ H _ I h) fun u s1 ⟨x,H1,I1,rx,a,dx,fs,ex,ea,l,q⟩=>?_) ht
 subst ex
 obtain rfl:u=Value.ref a:=rx
 refine mf I1 ea c hm l ?_
 exact PySem.W.callWith_K0 (first:=[.ref a]) I1.kIn hm.kp (se (us:=[.ref a]) (vs:=[.ref a]) F hr hb hd hx I1 (.cons rfl .nil) q)
structure Mk (K:PySem.W.Frag) (C f:Addr):Prop where
 makes:PySem.W.makesIn K C=true
 init:PySem.W.findIn K (.ref C) "__init__" = some (some (.ref f))
 fn:PySem.W.isFn K (.ref f)=true
 kp:PySem.W.keepIn K (.ref C)=true
theorem yS {pins:List (Addr×Obj)} {σ:St} {H:Hp} {s:Shared} {Q:VK} {us:List Value} {vs:List V} (M:Mk X.K C f) (F:bo X.prog X.w X.K X.mg X.base CX k f fd ps sp) (hr:cW (k+1) X.A) (hb:aL X.K fd ps ds) (hd:aX dvs ds)
  (hx:fi CX X E) (I:Inv X pins σ H s) (r:aX vs us)
  (h:∀ x dx,H x=none->H dx=none->dx≠x->sp (.ref x :: (vs++dvs)) (aG (aG H dx (.own x)) x (.ins C dx [])) (fun v H2=>v=.non/\Q (.ref x) H2) E) :
  wpAny (model X.prog X.w) X.A (call (.ref C) us) (EP X pins σ Q) X.xe s:=by
 have hq:=h (s.heap.objs.size+1) s.heap.objs.size (I.hok.fresh (Nat.le_succ _)) (I.hok.fresh (Nat.le_refl _)) (Nat.ne_of_lt (Nat.lt_succ_self _))
 have I2:=Inv.made (C:=C) I
 have r2:aX (V.ref (s.heap.objs.size+1) :: (vs++dvs)) (Value.ref (s.heap.objs.size+1) :: (us++ds)):=.cons rfl (r.append hd)
 have hl:(Value.ref (s.heap.objs.size+1) :: us++ds).length=ps.length:=by
  have e:=r2.length
  rw [F.len _ _ _ _ hq] at e
  exact e.symm
 refine wpAny_call (Aa (f:=f) I.kIn M.makes M.init (beq_iff_eq.mp M.fn) (codeAny_mono (F.run _ X.stack _ _ ⟨Value.ref (s.heap.objs.size+1) :: us,[]⟩ (Value.ref (s.heap.objs.size+1) :: (us++ds)) _ _ E (hr.make C us [])
  (I2.env0.make C us []) (hb _ (Value.ref (s.heap.objs.size+1) :: us) I2.kIn hl) r2 hq) fun r s' hq'=>?_))
 cases r with
 | error e=>exact hx pins σ _ _ e s' I2 hq'
 | ok fl=>
  cases fl with
  | ret u=>
   obtain⟨v,H',I3,rv,ev,q3⟩:=I2.after hq'
   subst ev
   exact⟨rv,⟨V.ref (s.heap.objs.size+1),H',I3,rfl,q3⟩⟩
  | next=>exact False.elim hq'
  | brk=>exact False.elim hq'
  | cont=>exact False.elim hq'
theorem zy (M:Mk X.K C f) (F:bo X.prog X.w X.K X.mg X.base CX k f fd ps sp) (hr:cW (k+1) X.A) (hg:Gl X x) (hm:X.mg x=some (.ref C)) (hb:aL X.K fd ps ds) (hd:aX dvs ds) (hx:fi CX X E)
  (hdb:(x == ("__debug__" : Str))=false:=by decide):PE X (.Call (.Name x p) [] [] pos) (Do C sp dvs E vx):=by
 intro pins s σ H Q I h
 refine wpAny_Call_Name_kw (pK I hg hm ?_ hdb)
 exact PySem.W.callWith_K0 I.kIn M.kp (yS (us:=[]) M F hr hb hd hx I .nil h)
end
def PK (X:Cx) (kws:List Keyword) (t:TA):Prop:=
 ∀ (pos:Pos) (pins:List (Addr×Obj)) (s:Shared) (σ:St) (H:Hp) (Q:List V->Hp->Prop),Inv X pins σ H s->t σ H Q->wpAny (model X.prog X.w) X.A (evalAll ((backToKw pos (keywordEach kws X.env)).map (·.2))) (AP X pins σ Q) X.xe s
section
variable {X:Cx} {CX:rG} {k:Nat} {f C:Addr} {fd:FuncData} {ps ks:List Str} {sp:Sp} {E:XK} {x m:Str} {p pos apos kpos:Pos} {e o:Expr} {es:List Expr} {kws:List Keyword} {te ta:TE} {t tk:TA} {nm:Option Str}
structure K7 (K:PySem.W.Frag) (fd:FuncData) (ps ks:List Str) (g:List Value->List Value->List Value) (gV:List V->List V->List V):Prop where
 to:∀ (s:Shared) (us ws:List Value),K.In s.heap->(g us ws).length=ps.length->BindsTo s fd ⟨us,ks.zip ws⟩ (ps.zip (g us ws))
 rel:∀ {vs:List V} {us:List Value} {zs:List V} {ws:List Value},aX vs us->aX zs ws->aX (gV vs zs) (g us ws)
def Kf (sp:Sp) (gV:List V->List V->List V) (E:XK) (t tk:TA):TE:=fun σ H Q=>t σ H fun vs H1=>tk σ H1 fun zs H2=>sp (gV vs zs) H2 Q E
variable {g:List Value->List Value->List Value} {gV:List V->List V->List V}
end
structure aC (N P:List Str) (sc:Scope):Prop where
 kind:sc.kind=.function
 co:sc.isCoroutine=false
 gen:sc.isGenerator=false
 nd:N.Nodup
 pre:N.take P.length=P
 par:∀ x∈P,sc.names.lookup x=some .local∨sc.names.lookup x=some .cell
 nofree:∀ y∈sc.names,y.2≠.free
theorem nX {kindOf:Str->Option NameKind} {x:Str}:∀ {binds:List (Str×Value)} {m:Str->Option Value},(∀ v,(x,v)∉binds)->bindL kindOf binds m x=m x
 | [],_,_=>rfl
 | (n,v) :: r,m,h=>by
  unfold bindL
  rw [nX fun w hw=>h w (List.mem_cons_of_mem _ hw)]
  split
  ·have:x≠n:=by rintro rfl;exact h v List.mem_cons_self
   simp [this]
  ·rfl
theorem nZ {kindOf:Str->Option NameKind} {x:Str}:∀ {binds:List (Str×Value)} {m:Str->Option Value},(∀ v,(x,v)∉binds)->bindC kindOf binds m x=m x
 | [],_,_=>rfl
 | (n,v) :: r,m,h=>by
  unfold bindC
  rw [nZ fun w hw=>h w (List.mem_cons_of_mem _ hw)]
  split
  ·rfl
  ·have:x≠n:=by rintro rfl;exact h v List.mem_cons_self
   simp [this]
theorem nY {kindOf:Str->Option NameKind} {x:Str} {v:Value}:∀ {P:List Str} {vs:List Value} {i:Nat} {m:Str->Option Value},P.Nodup->P[i]?=some x->vs[i]?=some v->kindOf x=some .local→
  bindL kindOf (P.zip vs) m x=some v
 | [],_,_,_,_,h,_,_=>by simp at h
 | _ :: _,[],_,_,_,_,h,_=>by simp at h
 | p :: P,w :: vs,0,m,nd,h1,h2,hk=>by
  simp at h1 h2;subst h1;subst h2
  show bindL kindOf ((p,w) :: P.zip vs) m p=_
  unfold bindL
  rw [nX fun v hv=>(List.nodup_cons.mp nd).1 (List.of_mem_zip hv).1,if_pos hk]
  simp
 | p :: P,w :: vs,i+1,m,nd,h1,h2,hk=>by
  show bindL kindOf ((p,w) :: P.zip vs) m x=_
  unfold bindL
  exact nY (i:=i) (List.nodup_cons.mp nd).2 (by simpa using h1) (by simpa using h2) hk
theorem n5 {kindOf:Str->Option NameKind} {x:Str} {v:Value}:∀ {P:List Str} {vs:List Value} {i:Nat} {m:Str->Option Value},P.Nodup->P[i]?=some x->vs[i]?=some v->kindOf x≠some .local→
  bindC kindOf (P.zip vs) m x=some v
 | [],_,_,_,_,h,_,_=>by simp at h
 | _ :: _,[],_,_,_,_,h,_=>by simp at h
 | p :: P,w :: vs,0,m,nd,h1,h2,hk=>by
  simp at h1 h2;subst h1;subst h2
  show bindC kindOf ((p,w) :: P.zip vs) m p=_
  unfold bindC
  rw [nZ fun v hv=>(List.nodup_cons.mp nd).1 (List.of_mem_zip hv).1,if_neg hk]
  simp
 | p :: P,w :: vs,i+1,m,nd,h1,h2,hk=>by
  show bindC kindOf ((p,w) :: P.zip vs) m x=_
  unfold bindC
  exact n5 (i:=i) (List.nodup_cons.mp nd).2 (by simpa using h1) (by simpa using h2) hk
def j6 (N:List Str) (vs:List V):St:=vs.map some++List.replicate (N.length - vs.length) none
def bG (CX:rG) (P:Program) (w:World) (K:PySem.W.Frag) (mg:Str->Option Value) (base:Heap) (N:List Str) (qual:Str) (scope:Scope) (f:Addr) (cd:Value) (A:Around) (outer:List Env) (s:Shared) (H:Hp) (E:XK):Cx where
 prog:=P
 w:=w
 K:=K
 mg:=mg
 base:=base
 A:=A.deeper (envOfC qual scope s.heap.objs.size f cd)
 N:=N
 s₀:=s
 H₀:=H
 env:=envOfC qual scope s.heap.objs.size f cd
 outer:=outer
 stack:=envOfC qual scope s.heap.objs.size f cd :: outer
 ex:=[]
 calm:=true
 fn:=fun _=>true
 pn:=[]
 xe:=fun e s'=>wpAny (model P w) (A.deeper (envOfC qual scope s.heap.objs.size f cd)) (leaving (envOfC qual scope s.heap.objs.size f cd) e) (fun _ s''=>CX outer H s E e s'') (fun e' s''=>CX outer H s E e' s'') s'
theorem rh {sc:Scope} {n:Nat} {x:Str} (h:sc.names.lookup x=some .cell):∃ c,(cellsFrom n sc.names []).lookup x=some c:=by
 have q:=PySem.W.cellsFrom_some sc.names n [] (.inl h)
 exact Option.isSome_iff_exists.mp q
theorem v9 {CX:rG} {P:Program} {w:World} {K:PySem.W.Frag} {mg:Str->Option Value} {base:Heap} {N ps:List Str} {qual:Str} {scope:Scope} {f:Addr} {cd:Value} {A:Around} {outer:List Env} {s s1:Shared} {H:Hp} {E:XK} {us:List Value} {vs:List V}
  (S:aC N ps scope) (hd:A.handled=none) (e0:rE P w K mg base A outer s H) (hl:vs.length=ps.length) (r:aX vs us)
  (x:InCallC s s.heap.objs.size (bindL (envOfC qual scope s.heap.objs.size f cd).kindOf (ps.zip us) fun _=>none) (cellsFrom (s.heap.objs.size+1) scope.names []) (bindC (envOfC qual scope s.heap.objs.size f cd).kindOf (ps.zip us) fun _=>none) s1) :
  Inv (bG CX P w K mg base N qual scope f cd A outer s H E) [] (j6 N vs) H s1:=by
 have hpl:ps.length≤N.length:=by have:=congrArg List.length S.pre;rw [List.length_take] at this;omega
 obtain⟨h1,tk,rfl,hk⟩:=x.done
 have noA:∀ b:Addr,b∉(bG CX P w K mg base N qual scope f cd A outer s H E).ex:=fun b z=>absurd (show b∈([]:List Addr) from z) (by simp)
 refine⟨⟨e0.mod,S.kind,rfl,rfl,Nat.le_refl _,fun y z c h1 h2=>?_,fun y hy=>?_,fun y c _ h=>?_,fun _=>hd,Around.frames_deeper e0.frames,.inr ⟨rfl,rfl⟩,fun b z=>absurd z (noA b),e0.bs,e0.bsz,fun b _ _=>noA b,fun b z=>absurd z (noA b),e0.funs,e0.frf⟩,
  rfl,e0.bare,Un.kept hk,⟨_,x.toInCall.ns,fun i y v h1 h2 h3=>?_⟩,fun y c h=>⟨_,x.cell y c h⟩,e0.hok.fresh (Nat.le_refl _),fun y c h=>?_,fun p hp=>absurd (show p∈([]:List (Addr×Obj)) from hp) (by simp),e0.hok.kept hk,?_⟩
 ·exact name_of_addr x.apart (PySem.mem_of_lookup h1) (PySem.mem_of_lookup h2)
 ·have hy:scope.names.lookup y=some .cell∨scope.names.lookup y=some .free:=hy
  rcases hy with hy | hy
  ·exact rh hy
  ·exact absurd rfl (S.nofree _ (PySem.mem_of_lookup hy))
 ·exact Nat.le_of_lt (x.above y c (PySem.mem_of_lookup h))
 ·have hi:i < vs.length:=by
   unfold j6 at h2
   by_cases hi:i < vs.length
   ·exact hi
   ·rw [List.getElem?_append_right (by simpa using hi)] at h2
    rw [List.getElem?_replicate] at h2
    split at h2 <;> cases h2
  have ha:vs[i]?=some v:=by
   unfold j6 at h2
   rw [List.getElem?_append_left (by simpa using hi),List.getElem?_map] at h2
   cases e:vs[i]? with
   | none=>rw [e] at h2;cases h2
   | some a=>rw [e] at h2;cases h2;rfl
  obtain⟨u,hu,rv⟩:=r.get ha
  have hp:ps[i]?=some y:=by
   rw [← S.pre,List.getElem?_take_of_lt (by omega)];exact h1
  have ndP:ps.Nodup:=by rw [← S.pre];exact S.nd.sublist (List.take_sublist _ _)
  refine⟨u,rv,?_⟩
  rcases S.par y (List.mem_of_getElem? hp) with k | k
  ·exact .inl ⟨k,nY ndP hp hu k⟩
  ·obtain⟨c,e⟩:=rh (n:=s.heap.objs.size+1) k
   refine .inr ⟨.inl k,c,e,?_⟩
   have q:=x.cell y c e
   rw [n5 ndP hp hu (by show scope.names.lookup y≠_;rw [k];decide)] at q
   exact q
 ·exact e0.hok.fresh (Nat.le_of_lt (x.above y c (PySem.mem_of_lookup h)))
 ·unfold j6
  show _=N.length
  rw [List.length_append,List.length_map,List.length_replicate]
  omega
theorem Jc {CX:rG} {P:Program} {w:World} {K:PySem.W.Frag} {mg:Str->Option Value} {base:Heap} {k:Nat} {f:Addr} {name qual:Str} {params:Arguments} {body:List Stmt} {scope:Scope} {dV kV doc pm cdv ct oc:Value} {an od:Option Addr}
  {osl:Array (Option Value)} {N ps:List Str} {sp:Sp} (lk:K.lookup f=some ⟨oc,od,.func (PySem.W.fnOf name qual params body scope dV kV doc pm an cdv ct),osl⟩) (hcd:PySem.W.codeIn K cdv qual=true) (S:aC N ps scope)
  (len:∀ vs H Q E,sp vs H Q E->vs.length=ps.length)
  (hbody:∀ (A:Around) (outer:List Env) (s:Shared) (H:Hp) (vs:List V) (Q:VK) (E:XK),cW k (A.deeper (envOfC qual scope s.heap.objs.size f cdv))->sp vs H Q E→
   ∃ t,tK (bG CX P w K mg base N qual scope f cdv A outer s H E) body t/\t { nx:=fun _ H'=>Q .non H',rt:=Q } (j6 N vs) H) :
  bo P w K mg base CX (k+1) f (PySem.W.fnOf name qual params body scope dV kV doc pm an cdv ct) ps sp:=by
 refine⟨len,fun A outer s H args us vs Q E hr e0 hb r hsp=>?_⟩
 have hl:=len _ _ _ _ hsp
 have KX:K.In s.heap:=e0.mod.kin.keeps fun b o e=>(e0.bs b o e).1
 have lim:s.heap.NoLimit:=e0.mod.nolimit.keeps fun b o e=>(e0.bs b o e).1
 have hkind:∀ y∈ps.zip us,scope.names.lookup y.1=some .local∨(scope.names.lookup y.1=some .cell/\((cellsFrom (s.heap.objs.size+1) scope.names []).lookup y.1).isSome=true):=fun⟨n,v⟩ hy=>by
  rcases S.par n (List.of_mem_zip hy).1 with q | q
  ·exact .inl q
  ·exact .inr ⟨q,PySem.W.cellsFrom_some _ _ _ (.inl q)⟩
 refine codeAny_call_function hr.depth (KX _ _ lk) rfl S.co S.gen rfl (PySem.W.codeRec_of KX hcd) (hb _ _ _ _ ?_)
 refine wpAny_newFunctionEnv_cells S.kind hkind fun env he s1 x=>?_
 subst he
 refine⟨lim.keeps x.toInCall.keep,codeAny_func ?_⟩
 obtain⟨t,ht,hq⟩:=hbody A outer s H vs Q E (hr.deeper _) hsp
 have I:Inv (bG CX P w K mg base N qual scope f cdv A outer s H E) [] (j6 N vs) H s1:=v9 S hr.hd e0 hl r x
 refine wpAny_mono (ht [] s1 (j6 N vs) H _ I hq) (fun fl s' hs=>?_) fun e s' hs=>hs
 have fin:∀ {σ':St} {H':Hp} {v:V} {u:Value},Inv (bG CX P w K mg base N qual scope f cdv A outer s H E) [] σ' H' s'->aZ v u->Q v H'->CE outer P w H s Q u s':=
  fun {σ' H' v u} J rv q=>⟨v,H',J.os,J.bare,J.base,J.hok,rv,q⟩
 cases fl with
 | ret u=>
  obtain⟨v,σ',H',J,rv,q⟩:=hs
  exact fin J rv q
 | next=>
  obtain⟨σ',H',J,q⟩:=hs
  exact fin (v:=V.non) (u:=Value.none) J rfl q
 | brk=>
  obtain⟨_,_,_,q⟩:=hs
  exact False.elim q
 | cont=>
  obtain⟨_,_,_,q⟩:=hs
  exact False.elim q
end L2
namespace L2
open PySem PySem.Spec PyProof.Rows
section
variable {X:Cx} {x:Str} {p pos:Pos} {e:Expr} {es:List Expr} {t:TA} {id T:String} {r:List V->Hp->VK->Prop}
def JK (r:List V->Hp->VK->Prop) (t:TA):TE:=fun σ H Q=>t σ H fun vs H1=>r vs H1 Q
theorem zJ (hc:dD X (.builtin id) r) (hg:Gl X x) (hm:X.mg x=none) (hv:bootBuiltins x=some (.builtin id)) (ha:PA X (e :: es) t) (hn:x ≠ "__name__" := by decide) (hdb:(x == ("__debug__" : Str))=false:=by decide)
  (he:starEach (e :: es) X.env=(false,eval e X.env) :: starEach es X.env:=by rfl) (hpl:(backTo pos (starEach es X.env)).any (·.1)=false:=by rfl):PE X (.Call (.Name x p) (e :: es) [] pos) (JK r t):=by
 intro pins s σ H Q I h
 refine wpAny_Call_Name_kw (gQ I hg hm hv ?_ hn hdb)
 exact PyProof.Rows.callWith_builtin1 (bX (ha pos pins s σ H _ I h) fun us s1 ⟨vs,H1,I1,r1,q1⟩=>hc pins s1 σ H1 vs us Q I1 r1 q1) he hpl
theorem vT (hc:dD X (.type T) r) (hg:Gl X x) (hm:X.mg x=none) (hv:bootBuiltins x=some (.type T)) (ha:PA X (e :: es) t) (hn:x ≠ "__name__" := by decide) (hdb:(x == ("__debug__" : Str))=false:=by decide)
  (he:starEach (e :: es) X.env=(false,eval e X.env) :: starEach es X.env:=by rfl) (hpl:(backTo pos (starEach es X.env)).any (·.1)=false:=by rfl):PE X (.Call (.Name x p) (e :: es) [] pos) (JK r t):=by
 intro pins s σ H Q I h
 refine wpAny_Call_Name_kw (gQ I hg hm hv ?_ hn hdb)
 exact PyProof.Rows.callWith_type1 (bX (ha pos pins s σ H _ I h) fun us s1 ⟨vs,H1,I1,r1,q1⟩=>hc pins s1 σ H1 vs us Q I1 r1 q1) he hpl
end
end L2
namespace HT
open PySem PyProof.Rows
def lexLt:List Int->List Int->Bool
 | [],[]=>false
 | [],_ :: _=>true
 | _ :: _,[]=>false
 | x :: xs,y :: ys=>if x=y then lexLt xs ys else decide (x < y)
section
open PySem.SeqAt
open PySem.AutoSeq1 (wpAny_loadPart')
open PySem.MeetsSeq PySem.MeetsSeq2 PySem.MeetsSeq3
end
section
variable {prog:Program} {w:World} {A:Around} {E:Value->Shared->Prop} {s:Shared}
def sIx (n d:Nat):Option Int->Nat
 | none=>d
 | some v=>if v < 0 then (v+(n:Int)).toNat else min v.toNat n
theorem sIx_none (n d:Nat):sIx n d none=d:=rfl
theorem sIx_nat (n d k:Nat):sIx n d (some (k:Int))=min k n:=by
 show (if (k:Int) < 0 then ((k:Int)+(n:Int)).toNat else min (k:Int).toNat n)=min k n
 rw [if_neg (by omega),Int.toNat_natCast]
theorem EN (n d:Nat) (hd:d≤n) (o:Option Int):sIx n d o≤n:=by
 cases o with
 | none=>exact hd
 | some v=>
  show (if v < 0 then (v+(n:Int)).toNat else min v.toNat n)≤n
  by_cases hv:v < 0
  ·rw [if_pos hv];omega
  ·rw [if_neg hv];exact Nat.min_le_right _ _
theorem uP (v:Int) (n d:Nat):(if v < 0 then max (v+(n:Int)) 0 else min v (n:Int))=((sIx n d (some v):Nat):Int):=by
 show (if v < 0 then max (v+(n:Int)) 0 else min v (n:Int))=(((if v < 0 then (v+(n:Int)).toNat else min v.toNat n):Nat):Int)
 by_cases hv:v < 0
 ·simp only [if_pos hv];omega
 ·simp only [if_neg hv];omega
theorem tD (lo hi:Option Int) (n:Nat):Builtin.Slice.sliceAdjust lo hi 1 (n:Int)=(((sIx n 0 lo:Nat):Int),((sIx n n hi:Nat):Int)):=by
 have h1:¬ ((1:Int) < 0):=by omega
 unfold Builtin.Slice.sliceAdjust
 simp only [h1,if_false]
 refine Prod.ext ?_ ?_
 ·cases lo with
  | none=>rfl
  | some v=>exact uP v n 0
 ·cases hi with
  | none=>rfl
  | some v=>exact uP v n n
theorem sy (i j:Nat):Builtin.Slice.slicePlaces (i:Int) (j:Int) 1=j - i:=by
 unfold Builtin.Slice.slicePlaces
 have h1:(1:Int) > 0:=by omega
 simp only [h1,if_true,Int.ediv_one]
 split <;> omega
theorem lL {v:Value} {o:Option Int} {Q:Option Int->Shared->Prop} (p:IsPart v o) (h:Q o s):wpAny (model prog w) A (Builtin.Slice.slicePartIndex v) Q E s:=by
 cases p with
 | none=>exact slicePart_none h
 | int i t=>exact slicePart_int h
theorem fK {sl:Addr} {vl vu:Value} {lo hi:Option Int} {n:Nat} {Q:Int×Int×Nat->Shared->Prop} (hs:s.heap.IsSliceOf sl vl vu .none) (pl:IsPart vl lo) (pu:IsPart vu hi)
  (h:Q (((sIx n 0 lo:Nat):Int),1,sIx n n hi - sIx n 0 lo) s):wpAny (model prog w) A (Builtin.Slice.sliceApplied (.ref sl) (pure (n:Int))) Q E s:=by
 obtain⟨os,hos,hcs,hds⟩:=id hs
 unfold Builtin.Slice.sliceApplied Builtin.Slice.sliceFields
 refine wpAny_bind (wpAny_bind (wpAny_field hos hds (x:=vl) rfl (wpAny_bind (wpAny_field hos hds (x:=vu) rfl (wpAny_bind (wpAny_field hos hds (x:=.none) rfl (wpAny_pure ?_)))))))
 refine wpAny_bind (slicePart_none ?_)
 show wpAny _ _ (if ((1:Int) == 0)=true then _ else _) _ _ s
 rw [if_neg (by decide)]
 refine wpAny_bind (lL pl (wpAny_bind (lL pu (wpAny_bind (wpAny_pure ?_)))))
 show wpAny _ _ (match Builtin.Slice.sliceAdjust lo hi 1 (n:Int) with | (lo,hi)=>pure (lo,(1:Int),Builtin.Slice.slicePlaces lo hi 1)) _ _ s
 rw [tD lo hi n]
 show wpAny _ _ (pure (((sIx n 0 lo:Nat):Int),(1:Int),Builtin.Slice.slicePlaces ((sIx n 0 lo:Nat):Int) ((sIx n n hi:Nat):Int) 1)) _ _ s
 rw [sy]
 exact wpAny_pure h
theorem zo (xs:Array Value) (i k:Nat):((List.range k).filterMap fun (m:Nat)=>xs[((i:Int)+(m:Int) * 1).toNat]?).toArray=((xs.toList.drop i).take k).toArray:=by
 have e:(fun (m:Nat)=>xs[((i:Int)+(m:Int) * 1).toNat]?)=fun m=>xs[i+m]?:=by
  funext m
  have:((i:Int)+(m:Int) * 1).toNat=i+m:=by omega
  rw [this]
 rw [e]
 have:=pick_run xs i k
 rw [List.filterMap_map] at this
 have e2:((fun x=>xs[x]?) ∘ fun x=>i+x)=fun m=>xs[i+m]?:=rfl
 rw [e2] at this
 rw [this]
theorem getItem_tuple_cut {t sl:Addr} {items:Array Value} {vl vu:Value} {lo hi:Option Int} {Q:Value->Shared->Prop} (ht:IsTup s.heap t items) (hs:s.heap.IsSliceOf sl vl vu .none) (pl:IsPart vl lo) (pu:IsPart vu hi)
  (hw:¬ (sIx items.size 0 lo=0/\sIx items.size items.size hi=items.size))
  (h:Q (.ref s.heap.objs.size) { s with heap:=s.heap.push { cls:=.type "tuple", data:=.seq ((items.toList.drop (sIx items.size 0 lo)).take (sIx items.size items.size hi - sIx items.size 0 lo)).toArray } })
  (hsz:items.size≤sizeLine):wpAny (model prog w) A (getItem (.ref t) (.ref sl)) Q E s:=by
 have htake:sizeOk (.seq ((items.toList.drop (sIx items.size 0 lo)).take (sIx items.size items.size hi - sIx items.size 0 lo)).toArray):=by
  show ((items.toList.drop (sIx items.size 0 lo)).take (sIx items.size items.size hi - sIx items.size 0 lo)).toArray.size≤sizeLine
  rw [List.size_toArray,List.length_take,List.length_drop,Array.length_toList]
  omega
 have hj:sIx items.size items.size hi≤items.size:=EN _ _ (Nat.le_refl _) hi
 obtain⟨os,hos,hcs,hds⟩:=id hs
 have hTs:s.TypeIs (.ref sl) "slice" := ⟨os,hos,hcs⟩
 unfold getItem
 try with_reducible refine wpAny_holding ?_
 first | refine wpAny_bind (wpAny_pure ?_) | skip
 refine wpAny_bind (wpAny_sequenceKey ht.typeIs (by decide) ?_)
 refine wpAny_bind (wpAny_callSpecial?_slot (name:=Str.ofString "__getitem__") ht.typeIs PyProof.Rows.slot_tuple_getitem
  (wpAny_call_entry PyProof.Rows.slot_tuple_getitem ht.typeIs entry_tuple_getitem ?_ (args_tuple_getitem _ _)))
 show wpAny _ _ (Builtin.Tuple.tupleItemsOf (.ref t) >>= _) _ _ s
 refine wpAny_bind (tupleItemsOf_ ht ?_)
 refine wpAny_bind (wpAny_typeOf hTs ?_)
 rw [if_pos (by decide)]
 refine wpAny_bind (fK hs pl pu ?_)
 have hno:¬ ((((sIx items.size 0 lo:Nat):Int) == 0 && (1:Int) == 1 && (sIx items.size items.size hi - sIx items.size 0 lo) == items.size)=true):=by
  intro q
  rw [Bool.and_eq_true,Bool.and_eq_true] at q
  have q1:((sIx items.size 0 lo:Nat):Int)=0:=eq_of_beq q.1.1
  have q2:sIx items.size items.size hi - sIx items.size 0 lo=items.size:=eq_of_beq q.2
  exact hw ⟨by omega,by omega⟩
 show wpAny _ _ (if (((sIx items.size 0 lo:Nat):Int) == 0 && (1:Int) == 1 && (sIx items.size items.size hi - sIx items.size 0 lo) == items.size)=true then _ else _) _ _ s
 rw [if_neg hno,zo]
 first
  | exact wpAny_bind (m:=Builtin.Tuple.tupleExact _) (wpAny_newObj_type (wpAny_pure ⟨_,rfl,wpAny_pure h⟩) htake)
  | exact wpAny_bind (m:=Builtin.Tuple.tupleExact _) (wpAny_newObj_type (wpAny_bind (wpAny_pure (wpAny_pure ⟨_,rfl,wpAny_pure h⟩))) htake)
  | exact wpAny_bind (wpAny_bind (m:=Builtin.Tuple.tupleExact _) (wpAny_newObj_type (wpAny_pure (wpAny_pure ⟨_,rfl,wpAny_pure h⟩)) htake))
  | exact wpAny_bind (wpAny_bind (m:=Builtin.Tuple.tupleExact _) (wpAny_newObj_type (wpAny_pure ⟨_,rfl,wpAny_pure h⟩) htake))
end
end HT
namespace L2
open PySem PySem.Spec PyProof.Rows
abbrev TO:=St->Hp->(Option Int->Hp->Prop)->Prop
def PO (X:Cx) (e:Option Expr) (t:TO):Prop:=
 ∀ (pins:List (Addr×Obj)) (s:Shared) (σ:St) (H:Hp) (Q:Option Int->Hp->Prop),Inv X pins σ H s->t σ H Q→
  wpAny (model X.prog X.w) X.A (evalPart e X.env) (fun u s'=>∃ o H',Inv X pins σ H' s'/\IsPart u o/\Q o H') X.xe s
def ud:TO:=fun _ H Q=>Q none H
def Dl (t:TE):TO:=fun σ H Q=>t σ H fun x H1=>Lb x fun i=>Q (some i) H1
section
variable {X:Cx} {e:Expr} {te:TE} {lo hi:Option Expr} {tl th:TO} {pos p2:Pos}
theorem B2:PO X none ud:=by
 intro pins s σ H Q I h
 rw [evalPart_none]
 exact wpAny_pure ⟨none,H,I,.none,h⟩
theorem B1 (h:PE X e te):PO X (some e) (Dl te):=by
 intro pins s σ H Q I hw
 rw [evalPart_some]
 refine bX (h pins s σ H _ I hw) fun u s1 ⟨x,H1,I1,r1,q1⟩=>?_
 obtain⟨i,rfl,q⟩:=q1
 obtain⟨t,rfl⟩:=r1
 exact⟨some i,H1,I1,.int i t,q⟩
def wT (X:Cx) (r:V->Option Int->Option Int->Hp->VK->Prop):Prop:=
 ∀ (pins:List (Addr×Obj)) (s:Shared) (σ:St) (H:Hp) (x:V) (v vl vu:Value) (lo hi:Option Int) (sl:Addr) (Q:VK),Inv X pins σ H s->aZ x v->s.heap.IsSliceOf sl vl vu .none->IsPart vl lo->IsPart vu hi->r x lo hi H Q→
  ∃ T id,typeLookup (.type T) "__getitem__" = pure (some (.builtin id))/\s.TypeIs v T/\wpAny (model X.prog X.w) X.A (getItem v (.ref sl)) (EP X pins σ Q) X.xe s
theorem wT.or {r r':V->Option Int->Option Int->Hp->VK->Prop} (h:wT X r) (h':wT X r'):wT X (fun x lo hi H Q=>r x lo hi H Q∨r' x lo hi H Q):=by
 intro pins s σ H x v vl vu lo hi sl Q I rx hs pl pu q
 rcases q with q | q
 ·exact h pins s σ H x v vl vu lo hi sl Q I rx hs pl pu q
 ·exact h' pins s σ H x v vl vu lo hi sl Q I rx hs pl pu q
def Lo (r:V->Option Int->Option Int->Hp->VK->Prop) (te:TE) (tl th:TO):TE:=fun σ H Q=>te σ H fun x H1=>tl σ H1 fun l H2=>th σ H2 fun u H3=>r x l u H3 Q
theorem zw {r:V->Option Int->Option Int->Hp->VK->Prop} (hr:wT X r) (he:PE X e te) (hl:PO X lo tl) (hu:PO X hi th):PE X (.Subscript e (.Slice lo hi none p2) pos) (Lo r te tl th):=by
 intro pins s σ H Q I h
 refine Subscript_ (bX (he pins s σ H _ I h) fun v s1 ⟨x,H1,I1,r1,q1⟩=>?_)
 refine wpAny_Slice (bX (hl pins s1 σ H1 _ I1 q1) fun vl s2 ⟨l,H2,I2,pl,q2⟩=>bX (hu pins s2 σ H2 _ I2 q2) fun vu s3 ⟨u,H3,I3,pu,q3⟩=>?_)
 rw [evalPart_none]
 refine wpAny_pure ?_
 have I4:Inv X pins σ H3 { s3 with heap:=s3.heap.push { cls:=.type "slice", data:=.fields #[vl,vu,.none] } }:=I3.kept (t':=s3.toks) fun b ob q=>Heap.get?_push_of_some _ q
 obtain⟨T,id,hT,ht,hg⟩:=hr pins { s3 with heap:=s3.heap.push { cls:=.type "slice", data:=.fields #[vl,vu,.none] } } σ H3 x v vl vu l u s3.heap.objs.size Q I4 r1 (Heap.IsSliceOf.new ..) pl pu q3
 show wpAny (model X.prog X.w) X.A (subscriptTail e (.Slice lo hi none p2) v (.ref s3.heap.objs.size)) (EP X pins σ Q) X.xe { s3 with heap:=s3.heap.push { cls:=.type "slice", data:=.fields #[vl,vu,.none] } }
 exact tail_any (ops:=[.ref s3.heap.objs.size,v]) ht hT hg (by with_unfolding_all rfl)
def gT (xs:List V) (lo hi:Option Int):List V:=(xs.drop (HT.sIx xs.length 0 lo)).take (HT.sIx xs.length xs.length hi - HT.sIx xs.length 0 lo)
theorem kf (xs:List V) (lo hi:Option Int):(gT xs lo hi).length≤xs.length:=by
 unfold gT
 rw [List.length_take,List.length_drop]
 omega
def Ic (K:PySem.W.Frag):V->Option Int->Option Int->Hp->VK->Prop:=fun x lo hi H Q=>∃ a xs,x=.ref a/\bt K H a xs∧
 ¬ (HT.sIx xs.length 0 lo=0/\HT.sIx xs.length xs.length hi=xs.length)/\∀ p,H p=none->Q (.ref p) (aG H p (.tup (gT xs lo hi)))
theorem Ef:wT X (Ic X.K):=by
 intro pins s σ H x v vl vu lo hi sl Q I rx hs pl pu h
 obtain⟨a,xs,rfl,hx,hw,q⟩:=h
 cases rx
 obtain⟨its,r,ht,hz⟩:=I.tuple hx
 have hlen:its.toArray.size=xs.length:=by rw [List.size_toArray];exact r.length.symm
 refine⟨"tuple", _,PyProof.Rows.slot_tuple_getitem.lookup,ht.typeIs,?_⟩
 refine HT.getItem_tuple_cut ht hs pl pu (by rw [hlen];exact hw) ?_ (by rw [hlen];exact hz)
 rw [hlen]
 refine⟨.ref s.heap.objs.size,_,I.laid (t':=s.toks) (o:=.tup (gT xs lo hi)) (fun b ob q=>Heap.get?_push_of_some _ q) (Nat.le_refl _) ?_,rfl,q _ (I.hok.fresh (Nat.le_refl _))⟩
 exact⟨Nat.le_trans (kf xs lo hi) hz,_,(r.drop (HT.sIx xs.length 0 lo)).take (HT.sIx xs.length xs.length hi - HT.sIx xs.length 0 lo),IsTup.new _ _⟩
def M4 (K:PySem.W.Frag):R2:=fun x y H Q=>∃ a b ns ms,x=.ref a/\y=.ref b/\bt K H a (ns.map V.int)/\bt K H b (ms.map V.int)/\Q (.bl (HT.lexLt ns ms)) H
def LV (K:PySem.W.Frag):R2:=fun x y H Q=>∃ a b xs ys,x=.ref a/\y=.ref b/\bt K H a xs/\bt K H b ys/\xs≠[]/\xs.length+ys.length≤sizeLine∧
 (ys=[]->Q (.ref a) H)/\(ys≠[]->∀ p,H p=none->Q (.ref p) (aG H p (.tup (xs++ys))))
end
end L2
namespace L2
open PySem PySem.Spec PyProof.Rows
def Ak (n:Nat) (i:Int):Option Nat:=if 0≤i then (if i < n then some i.toNat else none) else if -(n:Int)≤i then some (i+n).toNat else none
def rF {α:Type} (xs:List α) (i:Int):Option α:=(Ak xs.length i).bind fun j=>xs[j]?
theorem uF {n:Nat} {i:Int} {j:Nat} (h:Ak n i=some j):seqIndex? i n=some j/\j < n/\-(n:Int)≤i/\i < n:=by
 unfold Ak at h
 by_cases h0:0≤i
 ·rw [if_pos h0] at h
  by_cases h1:i < n
  ·rw [if_pos h1] at h
   have e:i.toNat=j:=Option.some.inj h
   exact⟨by rw [seqIndex_of h0 h1,e],by omega,by omega,h1⟩
  ·rw [if_neg h1] at h;cases h
 ·rw [if_neg h0] at h
  by_cases h1:-(n:Int)≤i
  ·rw [if_pos h1] at h
   have e:(i+n).toNat=j:=Option.some.inj h
   exact⟨by rw [seqIndex_neg (by omega) h1,e],by omega,h1,by omega⟩
  ·rw [if_neg h1] at h;cases h
theorem pW {α:Type} {xs:List α} {i:Int} {v:α} (h:rF xs i=some v):∃ j,seqIndex? i xs.length=some j/\xs[j]?=some v/\j < xs.length/\-(xs.length:Int)≤i/\i < xs.length:=by
 unfold rF at h
 cases e:Ak xs.length i with
 | none=>rw [e] at h;cases h
 | some j=>
  rw [e] at h
  obtain⟨h1,h2,h3,h4⟩:=uF e
  exact⟨j,h1,h,h2,h3,h4⟩
theorem bh {α:Type} {xs:List α} {j:Nat} {v:α} (h:xs[j]?=some v):rF xs (j:Int)=some v:=by
 have hj:j < xs.length:=(List.getElem?_eq_some_iff.mp h).1
 have e:Ak xs.length (j:Int)=some j:=by
  unfold Ak
  rw [if_pos (by omega),if_pos (by omega)];simp
 unfold rF;rw [e];exact h
theorem AL {α:Type} (xs:List α) (v:α):rF (xs++[v]) (-1)=some v:=by
 have hl:(xs++[v]).length=xs.length+1:=by simp
 have e:Ak (xs++[v]).length (-1)=some xs.length:=by
  unfold Ak
  rw [hl,if_neg (by decide),if_pos (by omega)]
  congr 1
  omega
 unfold rF
 rw [e]
 show (xs++[v])[xs.length]?=some v
 simp
def pY (b:Expr):Prop:=∀ o i,subscripted b false o i=operate [o,i] (getItem o i)
def uZ (X:Cx) (r:R2):Prop:=
 ∀ (value slice:Expr) (pins:List (Addr×Obj)) (s:Shared) (σ:St) (H:Hp) (x y:V) (v u:Value) (Q:VK),Inv X pins σ H s->aZ x v->aZ y u->r x y H Q→
  subscripted slice false v u=operate [v,u] (getItem v u)->wpAny (model X.prog X.w) X.A (subscriptTail value slice v u) (EP X pins σ Q) X.xe s
def Mo (X:Cx) (id:String) (r:V->List V->Hp->VK->Prop):Prop:=
 ∀ (pins:List (Addr×Obj)) (s:Shared) (σ:St) (H:Hp) (x:V) (xs:List V) (v:Value) (us:List Value) (Q:VK),Inv X pins σ H s->aZ x v->aX xs us->r x xs H Q→
  wpAny (model X.prog X.w) X.A (call (.builtin id) (v :: us)) (EP X pins σ Q) X.xe s
section
variable {X:Cx} {a b:Expr} {ta tb:TE} {pos:Pos}
theorem uZ.or {r r':R2} (h:uZ X r) (h':uZ X r'):uZ X (fun x y H Q=>r x y H Q∨r' x y H Q):=by
 intro value slice pins s σ H x y v u Q I rx ry q hs
 rcases q with q | q
 ·exact h value slice pins s σ H x y v u Q I rx ry q hs
 ·exact h' value slice pins s σ H x y v u Q I rx ry q hs
theorem Iu {r:R2} (hr:uZ X r) (ha:PE X a ta) (hb:PE X b tb) (hs:pY b):PE X (.Subscript a b pos) (Bg r ta tb):=by
 intro pins s σ H Q I h
 exact Subscript_ (GB ha hb I h fun v u s2 x y H2 I2 rx ry q=>hr a b pins s2 σ H2 x y v u Q I2 rx ry q (hs _ _))
inductive K9 (S:Addr->List V->Prop) (x y:V) (Q:V->Prop):Prop where
 | mk (p:Addr) (xs:List V) (i:Int) (v:V) (e:x=.ref p) (f:y=.int i) (s:S p xs) (a:rF xs i=some v) (k:Q v):K9 S x y Q
def ET (K:PySem.W.Frag):R2:=fun x y H Q=>K9 (aU K H) x y fun v=>Q v H
def ES (K:PySem.W.Frag):R2:=fun x y H Q=>K9 (bt K H) x y fun v=>Q v H
def Ij:R2:=fun x y H Q=>∃ z i c,x=.str z/\y=.int i/\z.length≤sizeLine/\rF z.cps.toList i=some c/\Q (.str ⟨#[c]⟩) H
theorem b8:uZ X (ET X.K):=by
 intro value slice pins s σ H x y v u Q I rx ry h hs
 obtain⟨p,xs,i,z,rfl,rfl,hq,he,q⟩:=h
 cases rx
 obtain⟨t,rfl⟩:=ry
 obtain⟨its,r,pl,hz⟩:=I.list hq
 obtain⟨j,h1,h2,h3,h4,h5⟩:=pW he
 obtain⟨w,ew,rw'⟩:=r.get h2
 have hl:=r.length
 have hn:=ma
 have fin:EP X pins σ Q w s:=⟨z,H,I,rw',q⟩
 by_cases h0:0≤i
 ·have hj:i.toNat=j:=by
   rw [seqIndex_of h0 h5] at h1
   exact Option.some.inj h1
  exact item_listR pl.isList h0 (by omega) (by rw [hj];simpa using ew) fin hs
 ·have hj:(i+(its.toArray.size:Int)).toNat=j:=by
   rw [seqIndex_neg (by omega) h4] at h1
   rw [List.size_toArray,← hl]
   exact Option.some.inj h1
  exact subscriptTail_builtinR (x:=w) pl.isList.typeIs slot_list_getitem.lookup
   (wpAny_getItem_list_neg (Q:=fun r s'=>r=w/\EP X pins σ Q r s') pl.isList (by omega) (by rw [List.size_toArray] <;> omega) (by omega) (by rw [hj];simpa using ew) ⟨rfl,fin⟩) hs
theorem aA:uZ X (ES X.K):=by
 intro value slice pins s σ H x y v u Q I rx ry h hs
 obtain⟨p,xs,i,z,rfl,rfl,hq,he,q⟩:=h
 cases rx
 obtain⟨t,rfl⟩:=ry
 obtain⟨its,r,pl,hz⟩:=I.tuple hq
 obtain⟨j,h1,h2,h3,h4,h5⟩:=pW he
 obtain⟨w,ew,rw'⟩:=r.get h2
 have hl:=r.length
 have hn:=ma
 have fin:EP X pins σ Q w s:=⟨z,H,I,rw',q⟩
 exact subscriptTail_builtinR (x:=w) pl.typeIs slot_tuple_getitem.lookup
  (getItem_tuple (j:=j) (Q:=fun r s'=>r=w/\EP X pins σ Q r s') pl (by omega) (by omega) (by rw [List.size_toArray,← hl];exact h1) (by simpa using ew) ⟨rfl,fin⟩) hs
theorem Gf:uZ X Ij:=by
 intro value slice pins s σ H x y v u Q I rx ry h hs
 obtain⟨z,i,c,rfl,rfl,hz,he,q⟩:=h
 obtain⟨t,rfl⟩:=rx
 obtain⟨t',rfl⟩:=ry
 obtain⟨j,h1,h2,h3,h4,h5⟩:=pW he
 have hl:z.cps.toList.length=z.length:=by simp [Str.length]
 rw [hl] at h1 h4 h5
 have hn:=ma
 exact tail_any (typeIs_str s z t) slot_str_getitem.lookup (getItem_str (c:=c) (by
  have e1:decide (i < -(2 ^ 63:Int))=false:=decide_eq_false (by omega)
  have e2:decide (i ≥ 2 ^ 63)=false:=decide_eq_false (by omega)
  rw [e1,e2,Bool.or_false]) (by rw [h1];simpa using h2) ⟨.str ⟨#[c]⟩,H,I.tok _,⟨_,rfl⟩,q⟩) hs
def Km (K:PySem.W.Frag):R2:=fun x y H Q=>ET K x y H Q∨ES K x y H Q∨Ij x y H Q
theorem Gg:uZ X (Km X.K):=b8.or (aA.or Gf)
theorem sN (its:List Value) (n j:Nat) (u:Value):Obj.mapSeq (·.setIfInBounds j u) { cls:=.type "list", data:=.seq its.toArray n }={ cls:=.type "list", data:=.seq (its.set j u).toArray n }:=by
 simp [Obj.mapSeq]
theorem Inv.lst {pins:List (Addr×Obj)} {σ:St} {H:Hp} {s:Shared} {p:Addr} {xs:List V} (I:Inv X pins σ H s) (h:H p=some (.lst xs)) :
  ∃ (its:List Value) (n:Nat),aX xs its/\s.heap.get? p=some { cls:=.type "list", data:=.seq its.toArray n }/\xs.length≤sizeLine:=by
 obtain⟨z,its,n,r,e⟩:=I.hok p _ h
 exact⟨its,n,r,e,z⟩
theorem Inv.lstUpd {pins:List (Addr×Obj)} {σ:St} {H:Hp} {s:Shared} {p:Addr} {xs ys:List V} {its its':List Value} {n n':Nat} {f:Obj->Obj} (I:Inv X pins σ H s) (h:H p=some (.lst xs))
  (ho:s.heap.get? p=some { cls:=.type "list", data:=.seq its.toArray n }) (hf:f { cls:=.type "list", data:=.seq its.toArray n }={ cls:=.type "list", data:=.seq its'.toArray n' }) (r:aX ys its') (hz:ys.length≤sizeLine) (t:Nat) :
  Inv X pins σ (aG H p (.lst ys)) { s with heap:=s.heap.update p f,toks:=t }:=by
 have e:(s.heap.update p f).get? p=some { cls:=.type "list", data:=.seq its'.toArray n' }:=by
  rw [Heap.get?_update_self f ho (by rw [hf] <;> rfl),hf]
 refine I.write (x:=p) (e:=p) (by rw [h];trivial) (.inl rfl) (fun b u hb q=>(Heap.get?_update_other _ _ (Ne.symm hb)).trans q) ⟨_,e⟩ ?_
 exact⟨hz,its',n',r,e⟩
inductive Jx (o i v:V) (H:Hp) (Q:Hp->Prop):Prop where
 | mk (p:Addr) (xs:List V) (k:Int) (j:Nat) (e:o=.ref p) (f:i=.int k) (h:H p=some (.lst xs)) (n:Ak xs.length k=some j) (q:Q (aG H p (.lst (xs.set j v)))):Jx o i v H Q
def Ie:V->V->V->Hp->(Hp->Prop)->Prop:=fun o i v H Q=>Jx o i v H Q
theorem jh:GH X Ie:=by
 intro pins s σ H o i v ov iv u Q I ro ri rv h
 obtain⟨p,xs,k,j,rfl,rfl,hp,hj,q⟩:=h
 cases ro
 obtain⟨t,rfl⟩:=ri
 obtain⟨its,n,r,ho,hz⟩:=I.lst hp
 obtain⟨h1,h2,h3,h4⟩:=uF hj
 have hl:=r.length
 have hn:=ma
 have I':Inv X pins σ (aG H p (.lst (xs.set j v))) { s with heap:=s.heap.update p (Obj.mapSeq (·.setIfInBounds j u)) }:=
  I.lstUpd hp ho (sN its n j u) (r.set rv j) (by rw [List.length_set];exact hz) s.toks
 by_cases h0:0≤k
 ·have hk:k.toNat=j:=by
   rw [seqIndex_of h0 h4] at h1
   exact Option.some.inj h1
  exact PySem.W.ki_setAt ho h0 (by omega) (by rw [List.size_toArray,← hl];exact h4) (by rw [hk];exact⟨_,I',q⟩)
 ·have hk:(k+(its.toArray.size:Int)).toNat=j:=by
   rw [seqIndex_neg (by omega) h3] at h1
   rw [List.size_toArray,← hl]
   exact Option.some.inj h1
  exact PySem.W.ki_setBack ho (by omega) (by rw [List.size_toArray,← hl];exact h3) (by omega) (by rw [hk];exact⟨_,I',q⟩)
theorem oM (lo hi:Option Int) (n:Nat):(sliceBounds lo hi none n).1=((HT.sIx n 0 lo:Nat):Int)/\(sliceBounds lo hi none n).2.1=((HT.sIx n n hi:Nat):Int)/\(sliceBounds lo hi none n).2.2=1:=by
 refine⟨?_,?_,rfl⟩
 ·cases lo with
  | none=>simp [sliceBounds,HT.sIx]
  | some i=>
   simp only [sliceBounds,HT.sIx,Option.getD_none,show (1:Int) > 0 by decide,if_true]
   by_cases h:i < 0
   ·simp only [h,if_true] <;> omega
   ·simp only [h,if_false] <;> omega
 ·cases hi with
  | none=>simp [sliceBounds,HT.sIx]
  | some i=>
   simp only [sliceBounds,HT.sIx,Option.getD_none,show (1:Int) > 0 by decide,if_true]
   by_cases h:i < 0
   ·simp only [h,if_true] <;> omega
   ·simp only [h,if_false] <;> omega
theorem mW (its:List Value) (lo hi:Option Int):slicePick its.toArray lo hi none=((its.drop (HT.sIx its.length 0 lo)).take (HT.sIx its.length its.length hi - HT.sIx its.length 0 lo)).toArray:=by
 obtain⟨h1,h2,h3⟩:=oM lo hi its.toArray.size
 unfold slicePick
 rw [h1,h2,h3]
 simp only [sliceRange_one,pick_run,List.size_toArray] <;> rfl
def Kk (K:PySem.W.Frag):V->Option Int->Option Int->Hp->VK->Prop:=fun x lo hi H Q=>∃ a xs,x=.ref a/\aU K H a xs/\∀ p,H p=none->Q (.ref p) (aG H p (.lst (gT xs lo hi)))
theorem uh:wT X (Kk X.K):=by
 intro pins s σ H x v vl vu lo hi sl Q I rx hs pl pu h
 obtain⟨a,xs,rfl,hx,q⟩:=h
 cases rx
 obtain⟨its,r,ht,hz⟩:=I.list hx
 have hlen:=r.length
 refine⟨"list", _,slot_list_getitem.lookup,ht.isList.typeIs,?_⟩
 refine wpAny_getItem_list_slice ht.isList hs pl pu .none (by simp) ?_ (by rw [List.size_toArray] <;> omega)
 rw [mW,← hlen]
 refine⟨.ref s.heap.objs.size,_,I.laid (t':=s.toks) (o:=.lst (gT xs lo hi)) (fun b ob q=>Heap.get?_push_of_some _ q) (Nat.le_refl _) ?_,rfl,q _ (I.hok.fresh (Nat.le_refl _))⟩
 exact⟨Nat.le_trans (kf xs lo hi) hz,_,0,(r.drop (HT.sIx xs.length 0 lo)).take (HT.sIx xs.length xs.length hi - HT.sIx xs.length 0 lo),Heap.get?_push_size _ rfl⟩
def jt:V->Bool
 | .non=>true
 | .bl _=>true
 | .int _=>true
 | .str _=>true
 | _=>false
def DO:V->V->Bool
 | .non,.non=>true
 | .bl a,.bl b=>a == b
 | .bl a,.int b=>(if a then 1 else 0) == b
 | .int a,.bl b=>a == (if b then 1 else 0)
 | .int a,.int b=>a == b
 | .str a,.str b=>a == b
 | _,_=>false
theorem Gs {A:Around} {s:Shared} {y x:V} {u v:Value} (ry:aZ y u) (rx:aZ x v) (fy:jt y=true) (fx:jt x=true):SeqAt.EqAt A s u v (DO y x):=by
 cases y with
 | non=>
  cases ry
  cases x with
  | non=>cases rx;exact SeqAt.EqAt.same _
  | bl b=>cases rx;exact SeqAt.EqAt.none_bool b
  | int b=>obtain⟨t,rfl⟩:=rx;exact SeqAt.EqAt.none_int b t
  | str b=>obtain⟨t,rfl⟩:=rx;exact SeqAt.EqAt.none_str b t
  | _=>exact absurd (show false=true from fx) Bool.false_ne_true
 | bl a=>
  cases ry
  cases x with
  | non=>cases rx;exact SeqAt.EqAt.bool_none a
  | bl b=>cases rx;exact SeqAt.EqAt.bool_bool a b
  | int b=>obtain⟨t,rfl⟩:=rx;exact SeqAt.EqAt.bool_int a b t
  | str b=>obtain⟨t,rfl⟩:=rx;exact SeqAt.EqAt.bool_str a b t
  | _=>exact absurd (show false=true from fx) Bool.false_ne_true
 | int a=>
  obtain⟨t',rfl⟩:=ry
  cases x with
  | non=>cases rx;exact SeqAt.EqAt.int_none a t'
  | bl b=>cases rx;exact SeqAt.EqAt.int_bool a t' b
  | int b=>obtain⟨t,rfl⟩:=rx;exact SeqAt.EqAt.int_int a t' b t
  | str b=>obtain⟨t,rfl⟩:=rx;exact SeqAt.EqAt.int_str a t' b t
  | _=>exact absurd (show false=true from fx) Bool.false_ne_true
 | str a=>
  obtain⟨t',rfl⟩:=ry
  cases x with
  | non=>cases rx;exact SeqAt.EqAt.str_none a t'
  | bl b=>cases rx;exact SeqAt.EqAt.str_bool a t' b
  | int b=>obtain⟨t,rfl⟩:=rx;exact SeqAt.EqAt.str_int a t' b t
  | str b=>obtain⟨t,rfl⟩:=rx;exact SeqAt.EqAt.str_str a t' b t
  | _=>exact absurd (show false=true from fx) Bool.false_ne_true
 | _=>exact absurd (show false=true from fy) Bool.false_ne_true
def CN (x:V) (u:Value):Bool:=match u with
 | .none=>DO .non x
 | .bool b=>DO (.bl b) x
 | .int i _=>DO (.int i) x
 | .str z _=>DO (.str z) x
 | _=>false
theorem Ay {x y:V} {u:Value} (r:aZ y u) (f:jt y=true):CN x u=DO y x:=by
 cases y with
 | non=>cases r;rfl
 | bl b=>cases r;rfl
 | int i=>obtain⟨t,rfl⟩:=r;rfl
 | str z=>obtain⟨t,rfl⟩:=r;rfl
 | _=>exact absurd (show false=true from f) Bool.false_ne_true
theorem pX {x:V}:∀ {xs:List V} {us:List Value},aX xs us->xs.all jt=true->us.any (CN x)=xs.any fun y=>DO y x
 | _,_,.nil,_=>rfl
 | y :: xs,u :: us,.cons r t,f=>by
  rw [List.all_cons,Bool.and_eq_true] at f
  rw [List.any_cons,List.any_cons,Ay r f.1,pX t f.2]
theorem l6 {A:Around} {s:Shared} {x:V} {v:Value} (rx:aZ x v) (fx:jt x=true):∀ {xs:List V} {us:List Value},aX xs us->xs.all jt=true->∀ u∈us,SeqAt.EqAt A s u v (CN x u)
 | _,_,.nil,_=>fun u hu=>by cases hu
 | y :: xs,u :: us,.cons r t,f=>fun u' hu=>by
  rw [List.all_cons,Bool.and_eq_true] at f
  rcases List.mem_cons.mp hu with rfl | hu
  ·rw [Ay r f.1];exact Gs r rx f.1 fx
  ·exact l6 rx fx t f.2 u' hu
def Gn (x:V) (xs:List V):Bool:=xs.any fun y=>DO y x
def LR (K:PySem.W.Frag) (neg:Bool):R2:=fun x y H Q=>∃ p xs,y=.ref p/\(aU K H p xs∨bt K H p xs)/\jt x=true/\xs.all jt=true/\Q (.bl (if neg then !Gn x xs else Gn x xs)) H
theorem pj:gF X (compareOp .NotIn) (LR X.K true):=by
 intro pins s σ H x y v u Q I rx ry h
 obtain⟨p,xs,rfl,hq,fx,fs,q⟩:=h
 cases ry
 rcases hq with hq | hq
 ·obtain⟨its,r,pl,hz⟩:=I.list hq
  refine SeqAt.notIn_listAt (CN x) pl.isList (fun w hw=>l6 rx fx r fs w (by simpa using hw)) ⟨.bl _,H,I,rfl,?_⟩
  rw [show its.toArray.any (CN x)=its.any (CN x) by simp,pX r fs]
  exact q
 ·obtain⟨its,r,pl,hz⟩:=I.tuple hq
  refine SeqAt.notIn_tupleAt (CN x) pl (fun w hw=>l6 rx fx r fs w (by simpa using hw)) ⟨.bl _,H,I,rfl,?_⟩
  rw [show its.toArray.any (CN x)=its.any (CN x) by simp,pX r fs]
  exact q
inductive GP (K:PySem.W.Frag) (H:Hp) (xs:List V) (Q:Int->Prop):Prop where
 | mk (p:Addr) (ys:List V) (e:xs=[.ref p]) (h:aU K H p ys∨bt K H p ys) (k:Q ys.length):GP K H xs Q
theorem aO:dD X (.builtin "len") (fun xs H Q=>GP X.K H xs fun n=>Q (.int n) H):=by
 intro pins s σ H xs us Q I r h
 obtain⟨p,ys,rfl,hq,q⟩:=h
 obtain⟨u,rfl,rx⟩:=gH r
 cases rx
 have hn:=ma
 rcases hq with hq | hq
 ·obtain⟨its,r',pl,hz⟩:=I.list hq
  have hlen:=r'.length
  exact Calls.call_len_list pl.isList (by simp only [List.size_toArray] <;> omega) ⟨.int ys.length,H,I.tok _,⟨s.toks+1,by rw [List.size_toArray,hlen]⟩,q⟩
 ·obtain⟨its,r',pl,hz⟩:=I.tuple hq
  have hlen:=r'.length
  exact len_tuple pl (by simp only [List.size_toArray] <;> omega) ⟨.int ys.length,H,I.tok _,⟨s.toks+1,by rw [List.size_toArray,hlen]⟩,q⟩
theorem pV:dD X (.type "list") (fun xs H Q=>∃ p ys,xs=[.ref p]/\(aU X.K H p ys∨bt X.K H p ys)/\∀ l,H l=none->Q (.ref l) (aG H l (.lst ys))):=by
 intro pins s σ H xs us Q I r h
 obtain⟨p,ys,rfl,hq,q⟩:=h
 obtain⟨u,rfl,rx⟩:=gH r
 cases rx
 have fin:∀ (its:List Value),aX ys its->ys.length≤sizeLine->∀ (h':Heap) (c':Nat),(∀ b o',s.heap.get? b=some o'->h'.get? b=some o')→
   h'.get? s.heap.objs.size=some { cls:=.type "list", dict:=none,data:=.seq its.toArray c',slots:=#[] }->EP X pins σ Q (.ref s.heap.objs.size) { s with heap:=h' }:=fun its r' hz h' c' kp e=>
  ⟨.ref s.heap.objs.size,_,I.laid (t':=s.toks) kp (Nat.le_refl _) (show bE X.prog X.w _ h' _ (.lst ys) from ⟨hz,its,c',r',e⟩),rfl,q _ (I.hok.fresh (Nat.le_refl _))⟩
 rcases hq with hq | hq
 ·obtain⟨its,r',pl,hz⟩:=I.list hq
  have hlen:=r'.length
  obtain⟨o,ho,hc,n,hd⟩:=pl.isList
  exact call_list_seq p (.inl rfl) ho hc hd (fun h' c' kp e=>fin its r' hz h' c' kp e) (by simp only [List.size_toArray] <;> omega)
 ·obtain⟨its,r',pl,hz⟩:=I.tuple hq
  have hlen:=r'.length
  obtain⟨o,ho,hc,n,hd⟩:=pl
  exact call_list_seq p (.inr rfl) ho hc hd (fun h' c' kp e=>fin its r' hz h' c' kp e) (by simp only [List.size_toArray] <;> omega)
theorem bn:dD X (.type "tuple") (fun xs H Q=>∃ p ys,xs=[.ref p]/\((aU X.K H p ys/\∀ l,H l=none->Q (.ref l) (aG H l (.tup ys)))∨(bt X.K H p ys/\Q (.ref p) H))):=by
 intro pins s σ H xs us Q I r h
 obtain⟨p,ys,rfl,h⟩:=h
 obtain⟨u,rfl,rx⟩:=gH r
 cases rx
 rcases h with ⟨hq,q⟩ | ⟨hq,q⟩
 ·obtain⟨its,r',pl,hz⟩:=I.list hq
  have hlen:=r'.length
  refine call_tuple_list pl.isList (fun h' kp=>?_) (by simp only [List.size_toArray] <;> omega)
  have I1:Inv X pins σ H { s with heap:=h' }:=I.kept (t':=s.toks) kp
  have I2:Inv X pins σ (aG H h'.objs.size (.tup ys)) { s with heap:=h'.push { cls:=.type "tuple", data:=.seq its.toArray } }:=
   I1.laid (t':=s.toks) (fun b o e=>Heap.get?_push_of_some _ e) (Nat.le_refl _) (show bE X.prog X.w _ _ _ (.tup ys) from ⟨hz,its,r',IsTup.new _ _⟩)
  exact⟨.ref h'.objs.size,_,I2,rfl,q _ (I1.hok.fresh (Nat.le_refl _))⟩
 ·obtain⟨its,r',pl,hz⟩:=I.tuple hq
  exact call_tuple_same pl ⟨.ref p,H,I,rfl,q⟩
def J8 (K:PySem.W.Frag) (T:String) (x:V) (H:Hp):Prop:=match x with
 | .str _=>T = "str"
 | .int _=>T = "int"
 | .ref p=>(T = "list" /\ ∃ xs,aU K H p xs)∨(T = "tuple" /\ ∃ o,K.lookup p=some o/\o.cls=.type "tuple" /\ o.dict=none)∨
   (T = "dict" /\ ((∃ kvs,H p=some (.dK kvs))∨∃ kvs,H p=some (.dT kvs)))∨(T = "set" /\ ∃ S n,H p=some (.set S n))
 | _=>False
theorem D5 {pins:List (Addr×Obj)} {σ:St} {H:Hp} {s:Shared} {T:String} {x:V} {v:Value} (I:Inv X pins σ H s) (r:aZ x v) (ty:J8 X.K T x H) :
  s.TypeIs v T/\∀ a,v=.ref a->∃ ob,s.heap.get? a=some ob/\ob.dict=none:=by
 cases x with
 | str z=>
  obtain⟨t,rfl⟩:=r
  cases (show T = "str" from ty)
  exact⟨typeIs_str s z t,fun _ e=>nomatch e⟩
 | int i=>
  obtain⟨t,rfl⟩:=r
  cases (show T = "int" from ty)
  exact⟨typeIs_int s i t,fun _ e=>nomatch e⟩
 | ref p=>
  cases r
  rcases ty with ⟨rfl,xs,hq⟩ | ⟨rfl,o,hk,hc,hd⟩ | ⟨rfl,hk⟩ | ⟨rfl,S,n,hk⟩
  ·obtain⟨its,_,pl,_⟩:=I.list hq
   refine⟨pl.isList.typeIs,fun a e=>?_⟩
   cases e
   obtain⟨o,n,e,c,hd,_⟩:=pl
   exact⟨o,e,hd⟩
  ·refine⟨⟨o,I.kIn p o hk,hc⟩,fun a e=>?_⟩
   cases e
   exact⟨o,I.kIn _ o hk,hd⟩
  ·have z:∃ o,s.heap.get? p=some o/\o.ExactDict:=by
    rcases hk with ⟨kvs,hk⟩ | ⟨kvs,hk⟩
    ·obtain⟨_,_,_,_,o,_,_,e,ex,_⟩:=I.hok p _ hk
     exact⟨o,e,ex⟩
    ·obtain⟨_,_,_,_,o,_,_,e,ex,_⟩:=I.hok p _ hk
     exact⟨o,e,ex⟩
   obtain⟨o,e,ex⟩:=z
   refine⟨⟨o,e,ex.1⟩,fun a e2=>?_⟩
   cases e2
   exact⟨o,e,ex.2.1⟩
  ·obtain⟨o,_,_,_,e,ex,_⟩:=I.hok p _ hk
   refine⟨⟨o,e,ex.1⟩,fun a e2=>?_⟩
   cases e2
   exact⟨o,e,ex.2.1⟩
 | _=>exact False.elim ty
def MQ (K:PySem.W.Frag) (T:String) (r:V->List V->Hp->VK->Prop) (to:TE):TE:=fun σ H Q=>to σ H fun x H1=>J8 K T x H1/\r x [] H1 Q
def LA (K:PySem.W.Frag) (T:String) (r:V->List V->Hp->VK->Prop) (to:TE) (t:TA):TE:=fun σ H Q=>to σ H fun x H1=>J8 K T x H1/\t σ H1 fun xs H2=>r x xs H2 Q
variable {o e:Expr} {es:List Expr} {to:TE} {t:TA} {name:Str} {apos cpos:Pos} {T id:String} {r:V->List V->Hp->VK->Prop}
theorem Iv (pa:PlainAttrs T) (slot:Slot T name id) (hty:typeOf (.builtin id)=pure (.type "method_descriptor")) (hm:Mo X id r) (ho:PE X o to) (ha:PA X (e :: es) t)
  (hbase:attributeBase o name X.env (eval o X.env)=eval o X.env:=by rfl)
  (hfew:((backTo cpos (starEach (e :: es) X.env)).all (fun x=>!x.1) && (backToKw cpos (keywordEach [] X.env)).all (fun x=>x.1.isSome)
   && decide ((e :: es).length+([]:List Keyword).length+(if ([]:List Keyword).isEmpty then 0 else 1) < 30))=true:=by rfl)
  (hline:(apos.endLine == cpos.line)=true:=by rfl) (hs:starEach (e :: es) X.env=(false,eval e X.env) :: starEach es X.env:=by rfl) (hplain:(backTo cpos (starEach es X.env)).any (·.1)=false:=by rfl) :
  PE X (.Call (.Attribute o name apos) (e :: es) [] cpos) (LA X.K T r to t):=by
 intro pins s σ H Q I h
 refine wpAny_Call_method_late hbase hfew hline rfl (bX (ho pins s σ H _ I h) fun v s1 ⟨x,H1,I1,r1,ty,q1⟩=>?_)
 obtain⟨h1,h2⟩:=D5 I1 r1 ty
 refine⟨T,id,pa,slot,hty,h1,h2,?_⟩
 have hA:=ha cpos pins s1 σ H1 _ I1 q1
 rw [hs] at hA ⊢
 refine Calls.callWith_builtin (by show (false || (backTo cpos (starEach es X.env)).any (·.1))=false;rw [hplain] <;> rfl) (Calls.evalArgs_plain ?_)
 exact bX hA fun us s2 ⟨vs,H2,I2,r2,q2⟩=>hm pins s2 σ H2 x vs v us Q I2 r1 r2 q2
end
end L2
namespace L2
open PySem PySem.Spec PyProof.Rows
def Mp (X:Cx) (id:String) (r:V->List V->Hp->VK->Prop):Prop:=
 ∀ (pins:List (Addr×Obj)) (s:Shared) (σ:St) (H:Hp) (x:V) (xs:List V) (v:Value) (us:List Value) (Q:VK),Inv X pins σ H s->aZ x v->aX xs us->r x xs H Q→
  wpAny (model X.prog X.w) X.A (call (.builtin id) (v :: us)) (EP X pins σ Q) X.xe s
theorem aX.one:∀ {x:V} {us:List Value},aX [x] us->∃ u,us=[u]/\aZ x u
 | _,_,.cons r .nil=>⟨_,rfl,r⟩
theorem aX.eraseIdx:∀ {xs:List V} {us:List Value} (i:Nat),aX xs us->aX (xs.eraseIdx i) (us.eraseIdx i)
 | _,_,_,.nil=>.nil
 | _,_,0,.cons _ t=>t
 | _,_,i+1,.cons r t=>.cons r (aX.eraseIdx i t)
section
variable {X:Cx} {pins:List (Addr×Obj)} {σ:St} {H:Hp} {s:Shared} {l b:Addr} {xs ys zs:List V}
theorem Inv.lset {its its':List Value} {n:Nat} {f:Array Value->Array Value} {t':Nat} (I:Inv X pins σ H s) (hH:H l=some (.lst xs))
  (e:s.heap.get? l=some { cls:=.type "list", data:=.seq its.toArray n }) (hf:f its.toArray=its'.toArray) (hv:aX ys its') (hz:ys.length≤sizeLine) :
  Inv X pins σ (aG H l (.lst ys)) { s with heap:=s.heap.update l (Obj.mapSeq f),toks:=t' }:=by
 have q:=PySem.IsL.update e f
 rw [hf] at q
 refine I.write (x:=l) (e:=l) (by rw [hH];exact trivial) (.inl rfl) (fun b' u hb hu=>(Heap.get?_update_other s.heap (Obj.mapSeq f) (Ne.symm hb)).trans hu) ⟨_,q⟩ ?_
 exact⟨hz,its',_,hv,q⟩
theorem Inv.lnew {its:List Value} {t':Nat} (I:Inv X pins σ H s) (hv:aX ys its) (hz:ys.length≤sizeLine) :
  Inv X pins σ (aG H s.heap.objs.size (.lst ys)) { s with heap:=s.heap.push { cls:=.type "list", data:=.seq its.toArray },toks:=t' }:=
 I.laid (fun _ _ q=>Heap.get?_push_of_some _ q) (Nat.le_refl _) ⟨hz,its,0,hv,Heap.get?_push_size _ rfl⟩
theorem Inv.fresh (I:Inv X pins σ H s):H s.heap.objs.size=none:=I.hok.fresh (Nat.le_refl _)
theorem Inv.lstM (I:Inv X pins σ H s) (hH:H l=some (.lst xs)):xs.length≤sizeLine/\∃ (its:List Value) (n:Nat),aX xs its/\xs.length=its.length/\s.heap.get? l=some { cls:=.type "list", data:=.seq its.toArray n }:=by
 obtain⟨z,its,n,r,e⟩:=I.hok l _ hH
 exact⟨z,its,n,r,r.length,e⟩
end
section
variable {X:Cx}
inductive JA (x:V) (vs:List V) (H:Hp) (Q:Hp->Prop):Prop where
 | mk (l:Addr) (xs:List V) (y:V) (e:x=.ref l) (f:vs=[y]) (h:H l=some (.lst xs)) (n:xs.length < sizeLine) (q:Q (aG H l (.lst (xs++[y])))):JA x vs H Q
def BO:V->List V->Hp->VK->Prop:=fun x vs H Q=>JA x vs H fun H'=>Q .non H'
theorem bU:Mp X "list.append" BO:=by
 intro pins s σ H x vs v us Q I rx rv h
 obtain⟨l,xs,y,rfl,rfl,hH,hz,q⟩:=h
 cases rx
 obtain⟨u,rfl,ru⟩:=rv.one
 obtain⟨z,its,n,r,hl,e⟩:=I.lstM hH
 refine call_meets F.slot_list_append ⟨_,e,rfl⟩ F.entry_list_append (F.args_list_append_2 _ _) (PySem.list_append l its.toArray n u (by rw [List.size_toArray];omega)) ⟨e,?_⟩
 refine⟨.non,_,I.lset (its':=its++[u]) hH e (by simp) (r.append (.cons ru .nil)) ?_,rfl,q⟩
 rw [List.length_append,List.length_singleton]
 omega
def JY:V->List V->Hp->VK->Prop:=fun x vs H Q=>∃ l b xs zs,x=.ref l/\vs=[.ref b]/\H l=some (.lst xs)/\H b=some (.lst zs)/\xs.length+zs.length≤sizeLine/\Q .non (aG H l (.lst (xs++zs)))
def M0:V->List V->Hp->VK->Prop:=fun x vs H Q=>∃ l xs y,x=.ref l/\vs=[]/\H l=some (.lst xs)/\xs[xs.length - 1]?=some y/\Q y (aG H l (.lst xs.dropLast))
def Kl:V->List V->Hp->VK->Prop:=fun x vs H Q=>∃ l xs i k y,x=.ref l/\vs=[.int i]/\H l=some (.lst xs)/\-(2 ^ 63)≤i/\i < 2 ^ 63/\seqIndex? i xs.length=some k/\xs[k]?=some y/\Q y (aG H l (.lst (xs.eraseIdx k)))
def Ig:V->List V->Hp->VK->Prop:=fun x vs H Q=>∃ l xs,x=.ref l/\vs=[]/\H l=some (.lst xs)/\Q .non (aG H l (.lst xs.reverse))
def Kr:V->List V->Hp->VK->Prop:=fun x vs H Q=>∃ l xs,x=.ref l/\vs=[]/\H l=some (.lst xs)/\Q .non (aG H l (.lst []))
def Ks:R2:=fun x y H Q=>∃ l b xs zs,x=.ref l/\y=.ref b/\H l=some (.lst xs)/\H b=some (.lst zs)/\xs.length+zs.length≤sizeLine/\∀ p,H p=none->Q (.ref p) (aG H p (.lst (xs++zs)))
theorem sK:gF X (binaryOp .Add) Ks:=by
 intro pins s σ H x y v u Q I rx ry h
 obtain⟨l,b,xs,zs,rfl,rfl,hH,hB,hz,q⟩:=h
 cases rx
 cases ry
 obtain⟨z,its,n,r,hl,e⟩:=I.lstM hH
 obtain⟨z2,its2,n2,r2,hl2,e2⟩:=I.lstM hB
 refine PySem.P.add_list e e2 ?_ (by rw [List.size_toArray,List.size_toArray];omega)
 have ea:its.toArray++its2.toArray=(its++its2).toArray:=by simp
 rw [ea]
 exact⟨.ref _,_,I.lnew (t':=s.toks) (r.append r2) (by rw [List.length_append];omega),rfl,q _ I.fresh⟩
def MZ:R2:=fun x y H Q=>∃ l k xs,x=.ref l/\y=.int k/\H l=some (.lst xs)/\-(2 ^ 63)≤k/\k < 2 ^ 63/\xs.length * k.toNat≤sizeLine∧
 ∀ p,H p=none->Q (.ref p) (aG H p (.lst (List.replicate k.toNat xs).flatten))
end
section
variable {prog:Program} {w:World} {A:Around} {E:Value->Shared->Prop} {s:Shared}
end
section
variable {X:Cx}
end
end L2
namespace Att
open PySem PySem.W PySem.Calls PyProof.Rows
theorem kx {P:Params} {h:Heap}:∀ (ns:List Int) (vs:List Value),WellAll P h vs (ns.map WData.int)->IntsAre vs ns:=by
 intro ns
 induction ns with
 | nil=>
  intro vs w
  rw [List.map_nil] at w
  cases w
  exact .nil
 | cons n ns ih=>
  intro vs w
  rw [List.map_cons] at w
  cases w with
  | cons a b=>
   cases a
   exact .cons _ _ (ih _ b)
theorem vH {l:OpenLaw} {n:Nat} (hn:l.most=some n) {P:Params} {h:Heap} {args:List WData} {vals:List Value}
  (hpre:l.row.toRowW.claim.pre args=true) (hwl:WellAll P h vals args) :
  ∃ a vs ns,vals=[Value.ref a]/\args=[WData.list (ns.map WData.int)]/\h.get? a=some { cls:=.type "list", data:=.seq vs.toArray }/\IntsAre vs ns/\ns.length≤n:=by
 have hsh:WShape.hasAll [] args [.list .int]=true:=(pre_splitW hpre).1
 have hc:l.pre.holds [] { args:=args }=true:=(pre_splitW hpre).2
 obtain⟨d,r,rfl,h1,h2⟩:=hasAllW_cons hsh
 obtain rfl:=hasAllW_nil h2
 obtain⟨xs,rfl,h3⟩:=hasW_list h1
 obtain⟨ns,rfl⟩:=items_int h3
 have hlen:ns.length≤n:=by
  unfold OpenLaw.pre at hc
  have h4:(WTm.not (.lt (.lit (.int (n:Int))) (.len (.arg 0)))).holds [] { args:=[.list (ns.map .int)] }=true:=by
   have h4:=(holds_andW hc).1
   rw [hn] at h4
   exact h4
  have h5:=condW_of h4 (w_not (w_lt w_lit (w_len_list (w_arg rfl))))
  rw [List.length_map] at h5
  refine Nat.le_of_not_lt fun q=>?_
  have q':(n:Int) < ((ns.length:Nat):Int):=by omega
  first
   | (rw [decide_eq_true q'] at h5;exact absurd h5 (by decide))
   | (simp at h5;omega)
 cases hwl with
 | cons w1 w2=>
  cases w2
  cases w1 with
  | list ho hall=>exact⟨_,_,ns,rfl,rfl,ho,kx ns _ hall,hlen⟩
theorem vP (l:OpenLaw) (args:List WData):l.row.toRowW.claim.post args (.bool true) args=true:=
 postW_of (r:=l.row.toRowW) (X:=(true == true))
  (show WShape.has [] (.bool true) .bool=true by first | rfl | decide | simp [WShape.has,WShape.arms,WShape.armsAll])
  (show (WTm.eq .res (.lit (.bool true))).value [] { args:=args,res:=some (.bool true),after:=args }=some (.bool (true == true)) from w_eq_bool (w_res rfl) w_lit) rfl
theorem attach_call {l:OpenLaw} {n:Nat} {q:Program} {loose:List Str} {XP:(Str->Option Value)->Heap->Prop} {YP:World->Heap->Prop} {d:DefRec}
  (hn:l.most=some n) (hdf:d.params.defaults=[])
  (call:∀ (w:World) (s₀ s₁:Shared) (mg mb:Str->Option Value) (fa:Addr) (o:Obj) (pm cd doc:Value) (a:Addr) (vs:List Value) (ns:List Int),
   Ground q loose [] XP w s₀ mg mb s₁.heap->YP w s₁.heap→
   s₁.heap.get? fa=some o->o.data=.func (docDef d.name d.params d.body d.scope pm cd doc)->s₁.heap.CodeRec cd d.name->mg d.name=some (.ref fa)→
   s₁.heap.get? a=some { cls:=.type "list", data:=.seq vs.toArray }->IntsAre vs ns->ns.length≤n->s₁.gens=#[]→
   codeAny (model l.prog w) callerA (.call (.ref fa) ⟨[.ref a],[]⟩) (fun r s'=>r=.ok (.ret (.bool true))/\OldK s₁.heap s'.heap/\s'.os=s₁.os/\AllBare s'.gens) s₁) :
  WalkO q loose XP YP l.row.toRowW d [] (fun f vs=>PySem.call f vs):=by
 intro w s₀ s₁ mg mb G Y fa o pm cd doc dV kV ho hd hcd hD hmg hg args vals as hpre hlay hrd hwl hlo
 obtain rfl:dV=.none:=Dflts.none hD hdf
 obtain rfl:kV=.none:=Dflts.noKw hD
 obtain⟨a,vs,ns,rfl,rfl,hobj,hints,hlen⟩:=vH hn hpre hwl
 refine enter_call (codeAny_mono (call w s₀ s₁ mg mb fa o pm cd doc a vs ns G Y ho (fd_plain hd) hcd hmg hobj hints hlen hg) fun r s' hq=>?_)
 obtain⟨rfl,h2,h3,h4⟩:=hq
 exact⟨.inl ⟨.bool true,.bool true,[],rfl,fun _=>rfl,.bool true,vP l _,fun _=>⟨List.Pairwise.nil,fun _ hm=>(nomatch hm)⟩⟩,h2,h3,h4⟩
section
variable {prog:Program} {w:World} {A:Around} {E:Value->Shared->Prop} {s:Shared} {K:Frag}
def Kv (h:Heap):Heap:={ h with objs:=#[] }
def Ky (h:Heap) (L d:Addr):List (Addr×Obj):=(List.range h.objs.size).filterMap fun a=>if a=L∨a=d then none else (h.get? a).map fun o=>(a,o)
end
end Att
namespace L2
open PySem PySem.Spec PyProof.Rows
theorem m8:∀ {vs:List Value} {ns:List Int},IntsAre vs ns->aX (ns.map V.int) vs
 | _,_,.nil=>.nil
 | _,_,.cons n t h=>.cons ⟨t,rfl⟩ (m8 h)
def GI (H:Hp):Prop:=∀ b,H b=none∨∃ o xs,H b=some (.frz o (.lst xs))
theorem Ah {P:Program} {w:World} {K:PySem.W.Frag} {mg mb:Str->Option Value} {CX:rG} {k:Nat} {fa a:Addr} {fd:FuncData} {x:Str} {sp:Sp} {s₁:Shared} {vs:List Value} {ns:List Int}
  (KX:K.In s₁.heap) (hns:s₁.heap.Ns mainGlobals mg) (hb:s₁.heap.Ns builtinsNs mb) (hbb:∀ x:Str,x ≠ "__name__" -> mb x=bootBuiltins x) (hlim:s₁.heap.NoLimit) (hg:s₁.gens=#[])
  (ha:s₁.heap.get? a=some { cls:=.type "list", data:=.seq vs.toArray }) (hi:IntsAre vs ns) (hl:ns.length≤sizeLine) (hr:cW k callerA)
  (F:∀ base:Heap,K.In base->base.Ns mainGlobals mg->bo P w K mg base CX k fa fd [x] sp) (hbind:∀ (s:Shared) (u:Value),BindsTo s fd ⟨[u],[]⟩ [(x,u)])
  (hsp:∀ H:Hp,GI H->aU K H a (ns.map V.int)->sp [.ref a] H (fun v _=>v=.bl true) fun _ _ _=>False)
  (hCX:∀ H e s',CX [] H s₁ (fun _ _ _=>False) e s'->False) :
  codeAny (model P w) callerA (.call (.ref fa) ⟨[.ref a],[]⟩) (fun r s'=>r=.ok (.ret (.bool true))/\OldK s₁.heap s'.heap/\s'.os=s₁.os/\AllBare s'.gens) s₁:=by
 have rv:=m8 hi
 have lenV:=hi.length
 have core:∀ H:Hp,GI H->aU K H a (ns.map V.int)->iR P w H s₁.heap->(∀ b,H b≠none->b=a)->(H a≠none->K.lookup a=none)→
   codeAny (model P w) callerA (.call (.ref fa) ⟨[.ref a],[]⟩) (fun r s'=>r=.ok (.ret (.bool true))/\OldK s₁.heap s'.heap/\s'.os=s₁.os/\AllBare s'.gens) s₁:=by
  intro H hO hS hok hA hK
  have base_of:∀ {b:Addr} {o:Obj},s₁.heap.get? b=some o->H b=none->(pN s₁.heap H).get? b=some o:=fun e n=>Ap e n
  have noA:∀ {b:Addr} {o:Obj} {es:Array DictEntry} {ep:Nat},s₁.heap.get? b=some o->o.data=.dict es ep->H b=none:=fun {b o es ep} e d=>by
   cases q:H b with
   | none=>rfl
   | some u=>
    have e':b=a:=hA b (by rw [q];simp)
    subst e'
    rw [ha] at e;cases e
    have d':Data.seq vs.toArray _=Data.dict es ep:=d
    cases d'
  have nsK:∀ {b:Addr} {m:Str->Option Value},s₁.heap.Ns b m->(pN s₁.heap H).Ns b m:=fun {b m} ⟨o,es,ep,e,d,r⟩=>⟨o,es,ep,base_of e (noA e d),d,r⟩
  have hKb:K.In (pN s₁.heap H):=fun b o e=>base_of (KX b o e) (by
   cases q:H b with
   | none=>rfl
   | some u=>
    have e':b=a:=hA b (by rw [q];simp)
    subst e'
    rw [hK (by rw [q];simp)] at e;cases e)
  have hM:Mod K mg (pN s₁.heap H):=⟨hKb,nsK hns,⟨mb,nsK hb,hbb⟩,let ⟨mc,h1,h2⟩:=hlim;⟨mc,nsK h1,h2⟩⟩
  have e0:rE P w K mg (pN s₁.heap H) callerA [] s₁ H:=⟨rfl,hM,fun b o e=>Co e,Nat.le_of_eq (wd _ _),trivial,fun b hb=>absurd (show b∈([]:List Addr) from hb) (by simp),hok,.of_eq hg⟩
  refine codeAny_mono ((F _ hKb (nsK hns)).run callerA [] s₁ H ⟨[.ref a],[]⟩ [.ref a] [.ref a] _ _ hr e0 (hbind s₁ (.ref a)) (.cons rfl .nil) (hsp H hO hS)) fun r s' h=>?_
  cases r with
  | error e=>exact (hCX H e s' h).elim
  | ok fl=>
   cases fl with
   | next=>exact False.elim h
   | brk=>exact False.elim h
   | cont=>exact False.elim h
   | ret u=>
    obtain⟨v,H',os,bare,un,hok',r',q⟩:=h
    have q':v=.bl true:=q
    subst q'
    obtain rfl:u=Value.bool true:=r'
    refine⟨rfl,OldK.of_keep fun b o e=>?_,os,bare⟩
    cases q:H b with
    | none=>exact un.keep b o e q (by intro z;exact absurd (show b∈([]:List Addr) from z) (by simp)) (by simp)
    | some u=>
     rcases hO b with z | ⟨ob,xs,z⟩
     ·rw [q] at z;cases z
     ·have z2:=un.frzs b ob _ z
      obtain⟨e1,_⟩:=hok b _ z
      obtain⟨e2,_⟩:=hok' b _ z2
      rw [e] at e1;cases e1
      exact e2
 cases hk:K.lookup a with
 | some o=>
  have e:=KX a o hk
  rw [ha] at e
  cases e
  refine core (fun _=>none) (fun _=>.inl rfl) (.inr ⟨_,vs.toArray,_,hk,rfl,rfl,rfl,by rw [List.size_toArray,lenV];exact hl,by simpa using rv⟩) (fun b u z=>by have z':(none:Option HO)=some u:=z;cases z') (fun b z=>absurd rfl z) fun z=>absurd rfl z
 | none=>
  refine core (fun b=>if b=a then some (.frz { cls:=.type "list", data:=.seq vs.toArray } (.lst (ns.map V.int))) else none) (fun b=>?_) (.inl (.inr ⟨{ cls:=.type "list", data:=.seq vs.toArray },if_pos rfl⟩)) (fun b u z=>?_) (fun b z=>?_) fun _=>hk
  ·by_cases hb:b=a
   ·exact .inr ⟨_,_,if_pos hb⟩
   ·exact .inl (if_neg hb)
  ·by_cases hb:b=a
   ·have z':=(if_pos hb).symm.trans z
    cases z'
    subst hb
    exact⟨ha,by rw [List.length_map];exact hl,vs,_,rv,ha⟩
   ·have z':=(if_neg hb).symm.trans z
    cases z'
  ·by_cases hb:b=a
   ·exact hb
   ·exact absurd (if_neg hb) z
end L2
namespace L2
open PySem PySem.Spec PyProof.Rows
abbrev Ol {K:PySem.W.Frag} {h:Heap} (_:K.In h):PySem.W.Frag:=K
theorem walk_of {l:PySem.W.OpenLaw} {n k:Nat} {q:Program} {loose:List Str} {XP:(Str->Option Value)->Heap->Prop} {YP:World->Heap->Prop} {d:DefRec} {K:Params->PySem.W.Frag} {CX:World->rG} {sp:World->Sp} {x:Str}
  (hn:l.most=some n) (hn2:n≤sizeLine) (hdf:d.params.defaults=[]) (hr:cW k callerA)
  (hY:∀ (w:World) (h:Heap),YP w h->(K w.params).In h)
  (F:∀ (w:World) (mg:Str->Option Value) (fa:Addr) (h:Heap),(K w.params).In h->h.Ns mainGlobals mg->mg d.name=some (.ref fa)→
   ∃ fd:FuncData,(∀ (s:Shared) (u:Value),BindsTo s fd ⟨[u],[]⟩ [(x,u)])∧
    ∀ base:Heap,(K w.params).In base->base.Ns mainGlobals mg->bo l.prog w (K w.params) mg base (CX w) k fa fd [x] (sp w))
  (hsp:∀ (w:World) (H:Hp) (a:Addr) (ns:List Int),ns.length≤n->GI H->aU (K w.params) H a (ns.map V.int)->sp w [.ref a] H (fun v _=>v=.bl true) fun _ _ _=>False)
  (hCX:∀ (w:World) (H:Hp) (s:Shared) (e:Value) (s':Shared),CX w [] H s (fun _ _ _=>False) e s'->False) :
  PySem.W.WalkO q loose XP YP l.row.toRowW d [] (fun f vs=>PySem.call f vs):=by
 refine Att.attach_call hn hdf fun w s₀ s₁ mg mb fa o pm cd doc a vs ns G Y ho hd hcd hmg hobj hints hlen hg=>?_
 have KX:=hY w _ Y
 obtain⟨fd,hb,hF⟩:=F w mg fa _ KX G.T.g hmg
 exact Ah KX G.T.g G.T.b G.T.builtins G.T.nolimit hg hobj hints (Nat.le_trans hlen hn2) hr hF hb (fun H hO hS=>hsp w H a ns hlen hO hS) fun H e s'=>hCX w H s₁ e s'
end L2
namespace L2
open PySem PySem.Spec PyProof.Rows
def ij (s:Stmt) (j:Nat):Stmt:=match s with
 | .ClassDef _ _ _ body _ _ _ _ _ _ _=>body.getD j (.Pass ⟨0,0,0,0⟩)
 | _=>.Pass ⟨0,0,0,0⟩
def dq (s:Stmt):Arguments:=match s with
 | .FunctionDef _ a _ _ _ _ _ _ _ _=>a
 | _=>{ posonlyargs:=[],args:=[],vararg:=none,kwonlyargs:=[],kw_defaults:=[],kwarg:=none,defaults:=[] }
def c7 (s:Stmt):List Stmt:=match s with
 | .FunctionDef _ _ b _ _ _ _ _ _ _=>b
 | _=>[]
def ax (s:Stmt):Scope:=match s with
 | .FunctionDef _ _ _ _ _ _ sc _ _ _=>sc
 | _=>{ kind:=.function,names:=[],isGenerator:=false,isCoroutine:=false }
abbrev dE:rG:=fun _ _ _ _ _ _=>False
abbrev E0:XK:=fun _ _ _=>False
theorem fm {X:Cx}:fi dE X E0:=fun _ _ _ _ _ _ _ h=>h.elim
structure di (K:PySem.W.Frag) (x qual:Str) (st:Stmt) (f:Addr) (fd:FuncData):Prop where
 ex:∃ (oc:Value) (od:Option Addr) (kV doc pm:Value) (an:Option Addr) (cdv ct:Value) (osl:Array (Option Value)),
  fd=PySem.W.fnOf x qual (dq st) (c7 st) (ax st) .none kV doc pm an cdv ct/\K.lookup f=some ⟨oc,od,.func fd,osl⟩/\PySem.W.codeIn K cdv qual=true
 kp:PySem.W.keepIn K (.ref f)=true
section
variable {P:Program} {w:World} {K:PySem.W.Frag} {mg:Str->Option Value} {base:Heap}
theorem di.ok {x qual:Str} {st:Stmt} {f:Addr} {fd:FuncData} {N ps:List Str} {k:Nat} {sp:Sp} (F:di K x qual st f fd) (S:aC N ps (ax st)) (len:∀ vs H Q E,sp vs H Q E->vs.length=ps.length)
  (hbody:∀ (cdv:Value) (A:Around) (outer:List Env) (s:Shared) (H:Hp) (vs:List V) (Q:VK) (E:XK),cW k (A.deeper (envOfC qual (ax st) s.heap.objs.size f cdv))->sp vs H Q E→
   ∃ t,tK (bG dE P w K mg base N qual (ax st) f cdv A outer s H E).nox (c7 st) t/\t { nx:=fun _ H'=>Q .non H',rt:=Q } (j6 N vs) H):bo P w K mg base dE (k+1) f fd ps sp:=by
 obtain⟨oc,od,kV,doc,pm,an,cdv,ct,osl,rfl,lk,hcd⟩:=F.ex
 refine Jc lk hcd S len fun A outer s H vs Q E hr hsp=>?_
 obtain⟨t,h,q⟩:=hbody cdv A outer s H vs Q E hr hsp
 exact⟨t,h.nox,q⟩
theorem di.binds {x qual:Str} {st:Stmt} {f:Addr} {fd:FuncData} {ps:List Str} (F:di K x qual st f fd)
  (h:∀ (kV doc pm:Value) (an:Option Addr) (cdv ct:Value) (us:List Value),us.length=ps.length->bindArgs (PySem.W.fnOf x qual (dq st) (c7 st) (ax st) .none kV doc pm an cdv ct) ⟨us,[]⟩=pure (ps.zip us)):aL K fd ps []:=by
 obtain⟨oc,od,kV,doc,pm,an,cdv,ct,osl,rfl,lk,hcd⟩:=F.ex
 exact .all (h kV doc pm an cdv ct)
theorem As {x qual:Str} {st:Stmt} {f:Addr} {oc:Value} {od an:Option Addr} {osl:Array (Option Value)} {kV doc pm cdv ct:Value} (l:K.lookup f=some ⟨oc,od,.func (PySem.W.fnOf x qual (dq st) (c7 st) (ax st) .none kV doc pm an cdv ct),osl⟩)
  (c:PySem.W.codeIn K cdv qual=true) (k:PySem.W.keepIn K (.ref f)=true):di K x qual st f (PySem.W.fnOf x qual (dq st) (c7 st) (ax st) .none kV doc pm an cdv ct):=⟨⟨oc,od,kV,doc,pm,an,cdv,ct,osl,rfl,l,c⟩,k⟩
end
theorem DL {A:Around} {k:Nat} (hr:cW k A):A.units+1 < cLine:=Nat.lt_of_le_of_lt (Nat.add_le_add_left (by decide:1≤64) _) hr.units
theorem aY {n:Nat} (h:n≤1000):n < sizeLine:=Nat.lt_of_le_of_lt h (by decide)
section
variable {X:Cx}
theorem pv (i:Nat) {x:Str} {pos:Pos} (hN:X.N[i]?=some x:=by rfl) (hv:Jh X.env.scope x:=by first | exact Or.inl rfl | exact Or.inr (Or.inl rfl) | exact Or.inr (Or.inr rfl)) (hd:(x == ("__debug__" : Str))=false:=by decide)
  (hcd:(x == ("__classdict__" : Str))=false:=by decide):PE X (.Name x pos) (D6 i):=Fg hN hv hd hcd
end
theorem fj {A B:Prop} (h:B):if false=true then A else B:=by
 rw [if_neg Bool.false_ne_true]
 exact h
theorem ku {A B:Prop} (h:A):if true=true then A else B:=by
 rw [if_pos rfl]
 exact h
theorem Gh {c A B:Prop} [Decidable c] (h1:c->A) (h2:¬ c->B):if c then A else B:=by
 by_cases h:c
 ·rw [if_pos h]
  exact h1 h
 ·rw [if_neg h]
  exact h2 h
theorem IR {c A B:Prop} [Decidable c] (hc:c) (h:B):if (!decide c)=true then A else B:=by
 rw [decide_eq_true hc]
 exact fj h
def aB (H H':Hp):Prop:=∀ b o,H b=some o->H' b=some o
theorem aB.refl (H:Hp):aB H H:=fun _ _ h=>h
theorem aB.trans {H H1 H2:Hp} (a:aB H H1) (b:aB H1 H2):aB H H2:=fun c o h=>b c o (a c o h)
theorem aB.seq {K:PySem.W.Frag} {H H':Hp} {a:Addr} {xs:List V} (e:aB H H') (h:aU K H a xs):aU K H' a xs:=by
 rcases h with (h | ⟨o,h⟩) | h
 ·exact .inl (.inl (e _ _ h))
 ·exact .inl (.inr ⟨o,e _ _ h⟩)
 ·exact .inr h
end L2
set_option maxHeartbeats 4000000
namespace B
open PySem L2 PyProof.Rows
theorem IS {c A B:Prop} [Decidable c] (hc:¬ c) (h:A):if (!decide c)=true then A else B:=by
 have e:(!decide c)=true:=by rw [decide_eq_false hc];rfl
 rw [if_pos e];exact h
theorem d7 {c A B:Prop} [Decidable c] (hc:c) (h:A):if decide c=true then A else B:=by
 rw [if_pos (decide_eq_true hc)];exact h
theorem cT {c A B:Prop} [Decidable c] (hc:¬ c) (h:B):if decide c=true then A else B:=by
 have e:¬ decide c=true:=by rw [decide_eq_false hc];intro z;cases z
 rw [if_neg e];exact h
theorem nM {b:Bool} {A B:Prop} (hb:b=true) (h:A):if b=true then A else B:=by rw [if_pos hb];exact h
theorem qV {b:Bool} {A B:Prop} (hb:b=false) (h:B):if b=true then A else B:=by
 rw [if_neg (by rw [hb];intro z;cases z)];exact h
def kd (A B:String):Option Bool:=if (Value.type A == Value.type B)=true then some true else if PySem.W.kitMeta B=true then (fastBuiltinMro A).map (·.contains (.type B)) else none
theorem sS {K:PySem.W.Frag} {A B:String} {b:Bool} (h:kd A B=some b):PySem.W.kitOne K (.type A) (.type B)=some b:=h
inductive Ty (H:Hp):V->String->Prop where
 | non:Ty H .non "NoneType"
 | bl (b:Bool):Ty H (.bl b) "bool"
 | int (i:Int):Ty H (.int i) "int"
 | str (x:Str):Ty H (.str x) "str"
 | lst {a:Addr} {xs:List V} (e:H a=some (.lst xs)):Ty H (.ref a) "list"
 | tup {a:Addr} {xs:List V} (e:H a=some (.tup xs)):Ty H (.ref a) "tuple"
theorem Ty.of {H:Hp} {v:V} {n:String} (K:PySem.W.Frag) (h:Ty H v n):j4 K H v (.type n):=by
 cases h with
 | non=>exact .non
 | bl b=>exact .bl b
 | int i=>exact .int i
 | str x=>exact .str x
 | lst e=>exact .lst e
 | tup e=>exact .tup e
def Kn:List V->Hp->VK->Prop:=fun xs H Q=>∃ x n m b,xs=[x,.ty n]/\Ty H x m/\kd m n=some b/\Q (.bl b) H
theorem jx {X:Cx}:dD X (.builtin "isinstance") Kn:=by
 intro pins s σ H xs us Q I r h
 obtain⟨x,n,m,b,rfl,ty,e,q⟩:=h
 obtain⟨u,u2,rfl,rx,ry⟩:=ua r
 obtain rfl:u2=Value.type n:=ry
 exact v8 I rx (ty.of X.K) (sS e) fun tk=>⟨.bl b,H,I.tok tk,rfl,q⟩
def J6:V->Bool
 | .int _=>true
 | _=>false
def MF (n:String):Bool:=n == "tuple"
structure dB (t:Addr) (H H':Hp):Prop where
 keep:∀ b o,b≠t->H b=some o->H' b=some o
 tp:∃ xs,H t=some (.lst xs)
 tp':∃ xs,H' t=some (.lst xs)
theorem dB.trans {t:Addr} {H H1 H2:Hp} (a:dB t H H1) (b:dB t H1 H2):dB t H H2:=⟨fun c o n e=>b.keep c o n (a.keep c o n e),a.tp,b.tp'⟩
theorem dB.up {t:Addr} {H:Hp} {xs ys:List V} (h:H t=some (.lst xs)):dB t H (aG H t (.lst ys)):=⟨fun c o n e=>by rw [az n];exact e,⟨_,h⟩,⟨_,ai⟩⟩
theorem ap {H:Hp} {p:Addr} (h:H p=none) (o:HO):aB H (aG H p o):=fun b u q=>by rw [az (aK q h)];exact q
theorem dB.same {t:Addr} {H H':Hp} (s:aB H H') (h:∃ xs,H t=some (.lst xs)):dB t H H':=⟨fun c o _ e=>s c o e,h,let ⟨xs,e⟩:=h;⟨xs,s _ _ e⟩⟩
theorem dB.refl {t:Addr} {H:Hp} (h:∃ xs,H t=some (.lst xs)):dB t H H:=⟨fun _ _ _ e=>e,h,h⟩
def Th (H:Hp) (v:V):Prop:=∃ n,Ty H v n/\∀ a xs,v=.ref a->H a=some (.tup xs)->∀ x∈xs,∃ m,Ty H x m
theorem Ku {xs:List V} {r:Int} (h0:0≤r) (h1:r < (xs.length:Int)):∃ v,rF xs r=some v/\v∈xs:=by
 have hk:r.toNat < xs.length:=by omega
 have ek:r=((r.toNat:Nat):Int):=by omega
 have q:rF xs ((r.toNat:Nat):Int)=some xs[r.toNat]:=bh (List.getElem?_eq_getElem hk)
 rw [← ek] at q
 exact⟨_,q,List.getElem_mem hk⟩
theorem DC {ns:List Int} {r:Int} (h0:0≤r) (h1:r < (ns.length:Int)):∃ z:Int,rF (ns.map V.int) r=some (.int z):=by
 obtain⟨v,h,hv⟩:=Ku (xs:=ns.map V.int) h0 (by rw [List.length_map];exact h1)
 obtain⟨z,_,rfl⟩:=List.mem_map.mp hv
 exact⟨z,h⟩
structure GE (H:Hp) (t s:Addr):Prop where
 ex:∃ (ns:List Int) (p q r:Int),H t=some (.lst [.ref s,.int p,.int q,.int r])/\H s=some (.lst (ns.map V.int))/\s≠t/\ns.length≤63/\0≤p/\0≤q/\0≤r
def JM (K:PySem.W.Frag):Sp:=fun vs H Q _=>∃ (a:Addr) (ns:List Int),vs=[.ref a]/\aU K H a (ns.map V.int)/\∀ (t s:Addr) (H':Hp),aB H H'->H t=none->H s=none->GE H' t s->Q (.ref t) H'
def JO:Sp:=fun vs H Q _=>∃ (t s:Addr) (m:Int),vs=[.ref t,.int m]/\GE H t s/\0 < m/\m < 1073741824/\∀ (r:Int) (xs:List V),0≤r->r < m->GE (aG H t (.lst xs)) t s->Q (.int r) (aG H t (.lst xs))
def JN (K:PySem.W.Frag):Sp:=fun vs H Q _=>∃ (a:Addr) (ns:List Int),vs=[.ref a]/\aU K H a (ns.map V.int)/\ns.length≤63/\∀ H',Q (.bl true) H'
theorem qX {a b:Int} (ha:0≤a) (hb:0 < b):Int.gcd b (a % b)=Int.gcd a b:=by
 obtain⟨n,rfl⟩:=Int.eq_ofNat_of_zero_le ha
 obtain⟨m,rfl⟩:=Int.eq_ofNat_of_zero_le (Int.le_of_lt hb)
 rw [← Int.natCast_emod]
 show Nat.gcd m (n % m)=Nat.gcd n m
 rw [Nat.gcd_comm m,← Nat.gcd_rec,Nat.gcd_comm]
theorem tE (i:Int):(if i < 0 then -i else i)=(i.natAbs:Int):=by split <;> omega
end B
namespace B
open PySem PySem.Spec L2 PyProof.Rows
mutual
inductive bw (K:PySem.W.Frag) (H:Hp):V->PyData->Prop where
 | non:bw K H .non .none
 | bl (b:Bool):bw K H (.bl b) (.bool b)
 | int (i:Int):bw K H (.int i) (.int i)
 | str (x:Str):bw K H (.str x) (.str x)
 | lst {a:Addr} {xs:List V} {ds:List PyData} (e:aU K H a xs) (h:bz K H xs ds):bw K H (.ref a) (.list ds)
 | tup {a:Addr} {xs:List V} {ds:List PyData} (e:bt K H a xs) (h:bz K H xs ds):bw K H (.ref a) (.tuple ds)
inductive bz (K:PySem.W.Frag) (H:Hp):List V->List PyData->Prop where
 | nil:bz K H [] []
 | cons {x:V} {d:PyData} {xs:List V} {ds:List PyData} (h:bw K H x d) (t:bz K H xs ds):bz K H (x :: xs) (d :: ds)
end
mutual
theorem bw.reads {X:Cx} {pins:List (Addr×Obj)} {σ:L2.St} {H:Hp} {s:Shared} (I:Inv X pins σ H s):∀ {v:V} {d:PyData} {u:Value},bw X.K H v d->aZ v u->∃ as,Reads s.heap u d as
 | _,_,u,.non,r=>by cases (show u=Value.none from r);exact⟨_,.none⟩
 | _,_,u,.bl b,r=>by cases (show u=Value.bool b from r);exact⟨_,.bool b⟩
 | _,_,u,.int i,r=>by obtain⟨t,q⟩:=(show ∃ t,u=Value.int i t from r);cases q;exact⟨_,.int i t⟩
 | _,_,u,.str x,r=>by obtain⟨t,q⟩:=(show ∃ t,u=Value.str x t from r);cases q;exact⟨_,.str x t⟩
 | _,_,u,.lst (a:=a) e h,r=>by
  cases (show u=Value.ref a from r)
  obtain⟨its,rv,⟨o,n,ho,hc,_,hd⟩,_⟩:=I.list e
  obtain⟨as,q⟩:=bz.reads I h rv
  exact⟨_,.list ho hc hd (by simpa using q)⟩
 | _,_,u,.tup (a:=a) e h,r=>by
  cases (show u=Value.ref a from r)
  obtain⟨its,rv,⟨o,ho,hc,n,hd⟩,_⟩:=I.tuple e
  obtain⟨as,q⟩:=bz.reads I h rv
  exact⟨_,.tuple ho hc hd (by simpa using q)⟩
theorem bz.reads {X:Cx} {pins:List (Addr×Obj)} {σ:L2.St} {H:Hp} {s:Shared} (I:Inv X pins σ H s):∀ {vs:List V} {ds:List PyData} {us:List Value},bz X.K H vs ds->aX vs us->∃ as,ReadsAll s.heap us ds as
 | _,_,_,.nil,.nil=>⟨_,.nil⟩
 | _,_,_,.cons h t,.cons r q=>
  let ⟨_,a⟩:=bw.reads I h r
  let ⟨_,b⟩:=bz.reads I t q
  ⟨_,.cons a b⟩
end
structure Jj (d:PyData):Prop where
 sh:d.showable=true
 nd:d.hasDict=false
 sz:d.shown.length≤sizeLine
 dp:d.depth≤16
def LO (K:PySem.W.Frag):List V->Hp->VK->Prop:=fun xs H Q=>∃ v d,xs=[v]/\bw K H v d/\Jj d/\Q (.str d.shown) H
end B
namespace B
open PySem PySem.Spec L2 PyProof.Rows
def nT (X:Cx) (N':List Str) (scope:Scope) (fn:Str->Bool) (cs:List (Str×Addr)) (C:Addr) (fp:List Addr) (pins:List (Addr×Obj)) (s:Shared) (H:Hp):Cx:=
 { X with N:=N',s₀:=s,H₀:=H,env:=compEnvC scope cs C X.env,outer:=X.stack,stack:=X.stack,ex:=fp,fn:=fn,pn:=X.pn++pins,xe:=fun _ _=>False }
abbrev CU (X:Cx) (N':List Str) (scope:Scope) (cl:List (Str×Addr)) (C:Addr) (fp:List Addr) (pins:List (Addr×Obj)) (s:Shared) (H:Hp):Cx:=nT X N' scope (fun _=>false) cl C fp pins s H
def cH (X:Cx) (scope:Scope) (cl:List (Str×Addr)):List Str->List (Option Nat)->Prop
 | [],[]=>True
 | _ :: N,none :: r=>cH X scope cl N r
 | x :: N,some j :: r=>X.N[j]?=some x/\X.env.kindOf x=some .cell/\(compEnvC scope cl 0 X.env).kindOf x=some .cell/\cl.lookup x=X.env.cells.lookup x/\cH X scope cl N r
 | _,_=>False
def cZ (src:List (Option Nat)) (σ:L2.St):L2.St:=src.map fun o=>o.bind fun j=>(σ[j]?).getD none
theorem cH.len {X:Cx} {scope:Scope} {cl:List (Str×Addr)}:∀ {N:List Str} {src:List (Option Nat)},cH X scope cl N src->N.length=src.length
 | [],[],_=>rfl
 | _ :: _,none :: _,h=>congrArg (·+1) (cH.len (X:=X) (scope:=scope) (cl:=cl) h)
 | _ :: _,some _ :: _,h=>congrArg (·+1) (cH.len (X:=X) (scope:=scope) (cl:=cl) h.2.2.2.2)
theorem cH.at {X:Cx} {scope:Scope} {cl:List (Str×Addr)} {σ:L2.St}:∀ {N:List Str} {src:List (Option Nat)} {i:Nat} {x:Str} {v:V},cH X scope cl N src->N[i]?=some x->(cZ src σ)[i]?=some (some v)→
  ∃ j:Nat,X.N[j]?=some x/\σ[j]?=some (some v)/\X.env.kindOf x=some .cell/\(compEnvC scope cl 0 X.env).kindOf x=some .cell/\cl.lookup x=X.env.cells.lookup x
 | y :: N,none :: r,0,x,v,h,e,q=>by cases q
 | y :: N,none :: r,i+1,x,v,h,e,q=>cH.at (N:=N) (src:=r) (i:=i) h e q
 | y :: N,some j :: r,0,x,v,h,e,q=>by
  cases e
  refine⟨j,h.1,?_,h.2.1,h.2.2.1,h.2.2.2.1⟩
  have q':some ((σ[j]?).getD none)=some (some v):=q
  injection q' with q'
  cases z:σ[j]? with
  | none=>rw [z] at q';cases q'
  | some o=>rw [z] at q';exact congrArg some q'
 | y :: N,some j :: r,i+1,x,v,h,e,q=>cH.at (N:=N) (src:=r) (i:=i) h.2.2.2.2 e q
def jJ (X:Cx) (scope:Scope) (cl:List (Str×Addr)):Prop:=
 (∀ x,((compEnvC scope cl 0 X.env).kindOf x=some .cell∨(compEnvC scope cl 0 X.env).kindOf x=some .free)->∃ c,cl.lookup x=some c)/\∀ x c,cl.lookup x=some c->X.env.cells.lookup x=some c
def iu (X:Cx):List (Str×Addr)->Prop
 | []=>True
 | y :: r=>X.env.cells.lookup y.1=some y.2/\iu X r
theorem iu.mem {X:Cx}:∀ {cl:List (Str×Addr)},iu X cl->∀ y∈cl,X.env.cells.lookup y.1=some y.2
 | [],_,y,h=>by cases h
 | z :: r,k,y,h=>by
  rcases List.mem_cons.mp h with e | h
  ·rw [e];exact k.1
  ·exact iu.mem k.2 y h
theorem mem_of_lookup {α:Type} {x:Str} {v:α}:∀ {l:List (Str×α)},l.lookup x=some v->(x,v)∈l
 | [],h=>by cases h
 | (y,w) :: r,h=>by
  rw [List.lookup_cons] at h
  cases e:x == y with
  | true=>
   rw [e] at h
   have e':x=y:=eq_of_beq e
   cases h
   rw [e'];exact List.mem_cons_self
  | false=>
   rw [e] at h
   exact List.mem_cons_of_mem _ (mem_of_lookup h)
theorem bB {X:Cx} {scope:Scope} {cl:List (Str×Addr)} (h1:((relabel scope X.env).names.all fun y=>!(y.2 == .cell || y.2 == .free) || (cl.lookup y.1).isSome)=true) (h2:iu X cl):jJ X scope cl:=by
 refine⟨fun x h=>?_,fun x c e=>h2.mem _ (mem_of_lookup e)⟩
 have h3:=List.all_eq_true.mp h1
 have key:∀ k:NameKind,(k=.cell∨k=.free)->(relabel scope X.env).names.lookup x=some k->∃ c,cl.lookup x=some c:=fun k hk e=>by
  have q:=h3 _ (mem_of_lookup e)
  have z:(k == NameKind.cell || k == NameKind.free)=true:=by rcases hk with rfl | rfl <;> rfl
  simp only [z,Bool.not_true,Bool.false_or] at q
  exact Option.isSome_iff_exists.mp q
 rcases h with h | h
 ·exact key _ (.inl rfl) h
 ·exact key _ (.inr rfl) h
def iz (σ σ':L2.St):Prop:=σ'.length=σ.length/\∀ (i:Nat) (v:V),σ[i]?=some (some v)->σ'[i]?=some (some v)
theorem iz.set {σ:L2.St} {i:Nat} {v:V} (h:σ[i]?=some none):iz σ (σ.set i (some v)):=by
 refine⟨List.length_set,fun j u e=>?_⟩
 have ne:i≠j:=fun z=>by subst z;rw [h] at e;cases e
 rw [List.getElem?_set_ne ne];exact e
theorem iz.set' {σ τ:L2.St} {i:Nat} {v:V} (e:iz σ τ) (h:σ[i]?=some none):iz σ (τ.set i (some v)):=by
 refine⟨by rw [List.length_set];exact e.1,fun j u q=>?_⟩
 have ne:i≠j:=fun z=>by subst z;rw [h] at q;cases q
 rw [List.getElem?_set_ne ne];exact e.2 j u q
structure tU (X:Cx) (scope:Scope) (fn:Str->Bool) (cl cs:List (Str×Addr)) (C:Addr):Prop where
 has:∀ x,((compEnvC scope cl 0 X.env).kindOf x=some .cell∨(compEnvC scope cl 0 X.env).kindOf x=some .free)->∃ c,cs.lookup x=some c
 up:∀ x c,cs.lookup x=some c->(fn x=true/\c=C+1)∨X.env.cells.lookup x=some c
 one:∀ x y,fn x=true->fn y=true->x=y
 low:∀ x c,cl.lookup x=some c->cs.lookup x=some c
 cab:∀ x c,fn x=true->cs.lookup x=some c->C≤c
section
variable {X:Cx} {N':List Str} {scope:Scope} {fn:Str->Bool} {cl cs:List (Str×Addr)} {src:List (Option Nat)} {pins:List (Addr×Obj)} {σ:L2.St} {H:Hp} {s:Shared} {fp:List Addr}
theorem Cx.compG_ok {C:Addr} (I:Inv X pins σ H s) (hC:s.heap.objs.size≤C) (hk:scope.kind=.function) (hf:∀ b∈fp,i9 X pins H b/\b < s.heap.objs.size) (hc:tU X scope fn cl cs C) :
  (nT X N' scope fn cs C fp pins s H).Ok where
 mod:=I.ok.mod
 kind:=hk
 glob:=I.ok.glob
 blt:=I.ok.blt
 above:=hC
 inj:=fun a b c e1 e2=>by
  have old:∀ z,X.env.cells.lookup z=some (C+1)->False:=fun z e=>by
   obtain⟨v,o,ho,_⟩:=I.cell z _ e
   exact Nat.lt_irrefl _ (Nat.lt_of_lt_of_le (Nat.lt_of_le_of_lt (Nat.le_succ C) (Heap.lt_size ho)) hC)
  rcases hc.up a c e1 with ⟨h1,h2⟩ | h2
  ·rcases hc.up b c e2 with ⟨h3,_⟩ | h4
   ·exact hc.one a b h1 h3
   ·rw [h2] at h4;exact (old b h4).elim
  ·rcases hc.up b c e2 with ⟨_,h4⟩ | h4
   ·rw [h4] at h2;exact (old a h2).elim
   ·exact I.ok.inj a b c h2 h4
 has:=fun x h=>hc.has x h
 cab:=fun x c z e=>Nat.le_trans hC (hc.cab x c z e)
 hd:=I.ok.hd
 frames:=I.ok.frames
 stk:=.inl rfl
 exf:=fun b hb=>⟨fun z=>by have:=(hf b hb).2;rw [show b=C from z] at this;exact absurd (Nat.lt_of_lt_of_le this hC) (Nat.lt_irrefl _),fun x c e=>by
  rcases hc.up x c e with ⟨_,h2⟩ | h2
  ·intro z
   have q:=(hf b hb).2
   rw [show b=C+1 from z.symm.trans h2] at q
   exact Nat.lt_irrefl _ (Nat.lt_of_lt_of_le (Nat.lt_of_le_of_lt (Nat.le_succ C) q) hC)
  ·exact (hf b hb).1.2.2.2.2.1 x c h2⟩
 bs:=I.bs
 bsz:=Nat.le_trans I.ok.bsz I.sz
 noex:=fun b o e hb=>by
  rcases (hf b hb).1.2.2.2.1 with z | z
  ·exact I.ok.noex b o e z
  ·rw [(I.ok.bs b o e).1] at z;cases z
 exfs:=fun b hb z=>by
  rcases List.mem_cons.mp (I.stkSub b z) with q | q
  ·exact (hf b hb).1.2.1 q
  ·exact (hf b hb).1.2.2.1 q
 funs:=I.stack
 frf:=I.stkFree
theorem Inv.compG {C:Addr} {h₁:Heap} {m:Str->Option Value} {tk:Nat} (I:Inv X pins σ H s) (hC:C=s.heap.objs.size) (hns:h₁.Ns C m) (hce:∀ x,fn x=true->h₁.IsCell (C+1) none) (keep:∀ b o,s.heap.get? b=some o->h₁.get? b=some o)
  (hk:scope.kind=.function) (hf:∀ b∈fp,i9 X pins H b/\b < s.heap.objs.size) (hc:tU X scope fn cl cs C) (hfree:cH X scope cl N' src) :
  Inv (nT X N' scope fn cs C fp pins s H) [] (cZ src σ) H { s with heap:=h₁,toks:=tk } where
 ok:=Cx.compG_ok I (Nat.le_of_eq hC.symm) hk hf hc
 os:=rfl
 bare:=I.bare
 base:=Un.kept keep
 loc:=⟨m,hns,fun i x v e1 e2 _=>by
  obtain⟨j,hj,hσ,kc,kc',hl⟩:=hfree.at e1 e2
  obtain⟨m0,hn0,hl0⟩:=I.loc
  obtain⟨u,r,l⟩:=hl0 j x v hj hσ (Or.inr (Or.inl kc))
  rcases l with ⟨k,_⟩ | ⟨k,c,e,o,ho,hd⟩
  ·rw [kc] at k;cases k
  ·exact⟨u,r,.inr ⟨.inl kc',c,hc.low _ _ (hl.trans e),o,keep c o ho,hd⟩⟩⟩
 cell:=fun x c e=>by
  rcases hc.up x c e with ⟨h1,h2⟩ | h2
  ·rw [h2];exact⟨none,hce x h1⟩
  ·obtain⟨v,o,ho,hd⟩:=I.cell x c h2
   exact⟨v,o,keep _ _ ho,hd⟩
 free:=I.hok.fresh (Nat.le_of_eq hC.symm)
 freeC:=fun x c e=>by
  rcases hc.up x c e with ⟨_,h2⟩ | h2
  ·rw [h2];exact I.hok.fresh (by rw [hC];exact Nat.le_succ _)
  ·exact I.freeC x c h2
 pin:=fun p hp=>by
  have hp':p∈X.pn++pins:=by
   have z:p∈(X.pn++pins)++[]:=hp
   rw [List.append_nil] at z;exact z
  obtain⟨e,n,ne,nf,d⟩:=I.pin p hp'
  refine⟨keep _ _ e,n,fun z=>?_,fun z=>?_,d⟩
  ·have:=Heap.lt_size e;rw [show p.1=C from z,hC] at this;exact Nat.lt_irrefl _ this
  ·rcases List.mem_cons.mp (I.stkSub _ z) with q | q
   ·exact ne q
   ·exact nf q
 hok:=I.hok.kept keep
 len:=by show (cZ src σ).length=N'.length;unfold cZ;rw [List.length_map,hfree.len]
end
structure mP (X:Cx) (scope:Scope) (fn:Str->Bool) (cl:List (Str×Addr)) (f:Addr->List (Str×Addr)):Prop where
 fun_:scope.kind=.function
 cells:∀ C,tU X scope fn cl (f C) C
 make:∀ {s:Shared} {Q:Env->Shared->Prop},(∀ (h:Heap) (m:Str->Option Value) (tk:Nat) (e:Env),h.Ns s.heap.objs.size m->(∀ x,fn x=true->h.IsCell (s.heap.objs.size+1) none)->(∀ b o,s.heap.get? b=some o->h.get? b=some o)→
  { e with scope:=relabel scope X.env }=compEnvC scope (f s.heap.objs.size) s.heap.objs.size X.env->e.locals=s.heap.objs.size->Q e { s with heap:=h,toks:=tk })→
  wpAny (model X.prog X.w) X.A (newFunctionEnv scope X.env.globals cl [] X.env.qual none .none (some X.env)) Q X.xe s
theorem DP {X:Cx} {scope:Scope} {cl:List (Str×Addr)} (hcell:∀ x∈scope.names,x.2≠.cell) (hkind:scope.kind=.function) (hcl:jJ X scope cl):mP X scope (fun _=>false) cl (fun _=>cl):=
 ⟨hkind,fun _=>⟨hcl.1,fun x c e=>.inr (hcl.2 x c e),fun _ _ z=>(nomatch z),fun _ _ e=>e,fun _ _ z=>(nomatch z)⟩,
  fun {s Q} k=>wpAny_newFunctionEnv hcell (by intro y hy;simp at hy) (fun h₄ hns₄ hsb₄=>k _ _ _ _ hns₄ (fun _ z=>(nomatch z)) (fun b o e=>hsb₄.extBut b o (Nat.ne_of_lt (Heap.lt_size e)) (Heap.get?_push_of_some _ e)) rfl rfl) hkind⟩
def G8 (X:Cx) (ifs:List Expr) (t:TT):Prop:=
 ∀ (pins:List (Addr×Obj)) (s:Shared) (σ:L2.St) (H:Hp) (Q:Bool->Hp->Prop),Inv X pins σ H s->t σ H Q→
  wpAny (model X.prog X.w) X.A (forIn ifs true fun c r=>if r=true then do let ok ← isTrue c X.env (eval c X.env);pure (ForInStep.yield ok) else pure (ForInStep.yield r)) (TP X pins σ Q) X.xe s
def Hm:TT:=fun _ H Q=>Q true H
theorem BV {X:Cx}:G8 X [] Hm:=fun _ _ _ H _ I h=>wpAny_tests_nil ⟨H,I,h⟩
theorem BU {X:Cx} {c:Expr} {t:TT} (h:PT X c t):G8 X [c] t:=fun pins s σ H Q I q=>wpAny_tests_one (h pins s σ H Q I q)
section
variable {prog:Program} {w:World} {A:Around} {R:Result->Shared->Prop} {s:Shared}
theorem wA {elt target iter:Expr} {ifs:List Expr} {scope:Scope} {pos:Pos} {it acc:Value} {env:Env} (I:Nat->Shared->Prop)
  (turn:∀ n s,I n s->wpAny (model prog w) A (pyNext it) (fun r s₁=>match r with
   | none=>R (.ok .next) s₁
   | some v=>wpAny (model prog w) A (letOwnedTupleGo target it v) (fun _ s₁'=>wpAny (model prog w) A (assign target env v) (fun _ s₂=>
     wpAny (model prog w) A (forIn ifs true fun c r=>if r=true then do let ok ← isTrue c env (eval c env);pure (ForInStep.yield ok) else pure (ForInStep.yield r)) (fun ok s₃=>
      if ok=true then wpAny (model prog w) A (eval elt env) (fun x s₄=>
       wpAny (model prog w) A (call (.builtin "list.append") [acc,x]) (fun _ s₅=>∃ m,m < n/\I m s₅) (fun _ _=>False) s₄) (fun _ _=>False) s₃
      else ∃ m,m < n/\I m s₃) (fun _ _=>False) s₂) (fun _ _=>False) s₁') (fun _ _=>False) s₁) (fun _ _=>False) s)
  (n:Nat) (h:I n s):codeAny (model prog w) A (.compLoop (.ListComp elt [⟨target,iter,ifs,0⟩] scope pos) 0 it acc env) R s:=by
 refine codeAny_loop rfl I (fun n s hI=>?_) n h
 show wpAny _ A ((compTurn (.ListComp elt [⟨target,iter,ifs,0⟩] scope pos) 0 it acc env).onRaise (fun x=>do noteFrame x env;theTreesLotGoes x)) _ _ s
 refine wpAny_noted ?_
 rw [compTurn_list]
 refine wpAny_bind (wpAny_standAt (wpAny_bind (wpAny_mono (turn n s hI) (fun r s₁ h₁=>?_) fun _ _ h'=>h'.elim)))
 cases r with
 | none=>exact wpAny_pure h₁
 | some v=>
  refine wpAny_bind (wpAny_mono h₁ (fun _ s₁' h₁'=>?_) fun _ _ h'=>h'.elim)
  refine wpAny_bind (wpAny_mono h₁' (fun _ s₂ h₂=>wpAny_bind (wpAny_mono h₂ (fun ok s₃ h₃=>?_) fun _ _ h'=>h'.elim)) fun _ _ h'=>h'.elim)
  cases ok with
  | false=>exact wpAny_pure ⟨rfl,h₃⟩
  | true=>
   exact wpAny_bind (wpAny_bind (wpAny_mono h₃ (fun x s₄ h₄=>wpAny_bind (wpAny_mono h₄ (fun _ s₅ h₅=>wpAny_pure (wpAny_pure ⟨rfl,h₅⟩)) fun _ _ h'=>h'.elim)) fun _ _ h'=>h'.elim))
end
structure Dd (X:Cx) (pins:List (Addr×Obj)) (H:Hp) (C:Addr):Prop where
 no:H C=none
 lo:C≠X.env.locals
 fs:C∉X.fs
 old:X.s₀.heap.get? C=none
 ce:∀ x c,X.env.cells.lookup x=some c->c≠C
 pn:∀ p∈X.pn++pins,p.1≠C
theorem Dd.turned {X:Cx} {pins:List (Addr×Obj)} {σ:L2.St} {H:Hp} {C:Addr} {s:Shared} (o:Dd X pins H C) (I:Inv X pins σ H s) {h':Heap} (sb:Heap.SameBut C s.heap h'):Inv X pins σ H { s with heap:=h' }:=
 I.turned (it:=C) (t':=s.toks) (fun b u hb e=>sb.extBut b u hb e) o.no o.lo (.inr o.old) o.ce o.pn
abbrev JD (J:It) (D:Addr) (H1:Hp) (src:List (Option Nat)) (σ:L2.St) (g:TG) (tt:TT) (te:TE) (Q:Hp->Prop):Prop:=∃ W:Nat->Nat->List V->Hp->Prop,
 (∃ m,W 0 m [] (aG H1 D (.lst [])))/\∀ i m ys H,W i m ys H->(J.stop i H/\Q H)∨(J.go i H/\∀ x H',J.yld i H x H'->g x (cZ src σ) H' fun σ2 H2=>iz (cZ src σ) σ2/\tt σ2 H2 fun ok H3=>
  if ok=true then te σ2 H3 fun y H4=>H4 D=some (.lst ys)/\ys.length < sizeLine/\∃ m',m' < m/\W (i+1) m' (ys++[y]) (aG H4 D (.lst (ys++[y]))) else ∃ m',m' < m/\W (i+1) m' ys H3)
def k8 (wi:TI) (src:List (Option Nat)) (g:TG) (tt:TT) (te:TE):TE:=fun σ H Q=>wi σ H fun J H1=>∀ D,H1 D=none->JD J D H1 src σ g tt te (Q (.ref D))
section
variable {X:Cx} {N':List Str} {scope:Scope} {fn:Str->Bool} {cl:List (Str×Addr)} {f:Addr->List (Str×Addr)} {src:List (Option Nat)} {tg iter elt:Expr} {ifs:List Expr} {wi:TI} {g:TG} {tt:TT} {te:TE} {pos:Pos}
theorem nU (hc:X.calm=true) (hi:PI X tg iter wi) (hg:∀ C fp pins s H,PG (nT X N' scope fn (f C) C fp pins s H) tg g) (ht:∀ C fp pins s H,G8 (nT X N' scope fn (f C) C fp pins s H) ifs tt)
  (he:∀ C fp pins s H,PE (nT X N' scope fn (f C) C fp pins s H) elt te) (hfree:cH X scope cl N' src) (hE:mP X scope fn cl f)
  {RR:Value->Addr->Result->Shared->Prop} {pins:List (Addr×Obj)} {s:Shared} {σ:L2.St} {H:Hp} {Q:VK} (I:Inv X pins σ H s) (h:k8 wi src g tt te σ H Q)
  (hRR:∀ D C H' s',Q (.ref D) H'->(∃ m,s'.heap.Ns C m)->Inv X pins σ H' s'->Dd X pins H' C->RR (.ref D) C (.ok .next) s') :
  wpAny (model X.prog X.w) X.A (eval iter X.env) (fun x s₁=>wpAny (model X.prog X.w) X.A (pyIter x) (fun itv s₂=>wpAny (model X.prog X.w) X.A (newList []) (fun acc s₃=>
   wpAny (model X.prog X.w) X.A (newFunctionEnv scope X.env.globals cl [] X.env.qual none .none (some X.env)) (fun cenv s₄=>
    codeAny (model X.prog X.w) X.A (.compStart (.ListComp elt [⟨tg,iter,ifs,0⟩] scope pos) 0 itv acc { cenv with scope:=relabel scope X.env }) (RR acc cenv.locals) s₄) X.xe s₃) X.xe s₂) X.xe s₁) X.xe s:=by
 refine bX (hi pins s σ H _ I h) fun v s1 h1=>bX h1 fun itv s2 h2=>?_
 obtain⟨it,fp,tn,J,H2,e,I2,T,st2,f2,h2⟩:=h2
 subst e
 refine wpAny_newObj_type ?_ (by show 0≤sizeLine;exact Nat.zero_le _)
 have hD:H2 s2.heap.objs.size=none:=I2.fresh
 have I3:Inv X pins σ (aG H2 s2.heap.objs.size (.lst [])) { s2 with heap:=s2.heap.push { cls:=.type "list", data:=.seq ([]:List Value).toArray } }:=I2.lnew (t':=s2.toks) (its:=[]) .nil (Nat.zero_le _)
 obtain⟨W,⟨m0,w0⟩,turn⟩:=h2 s2.heap.objs.size hD
 generalize hDe:s2.heap.objs.size=D at I3 turn w0 hD ⊢
 have st3:tn 0 (s2.heap.push { cls:=.type "list", data:=.seq ([]:List Value).toArray }):=T.keep _ _ _ st2 fun b _ o e=>Heap.get?_push_of_some _ e
 have f3:∀ b∈fp,i9 X pins (aG H2 D (.lst [])) b/\b < (s2.heap.push { cls:=.type "list", data:=.seq ([]:List Value).toArray }).objs.size:=fun b hb=>by
  obtain⟨o,e,_⟩:=T.obj _ _ st2 b hb
  have l:=Heap.lt_size e
  rw [hDe] at l
  refine⟨⟨?_,(f2 b hb).2⟩,by rw [Heap.size_push,hDe];exact Nat.lt_succ_of_lt l⟩
  rw [az (Nat.ne_of_lt l)];exact (f2 b hb).1
 generalize (s2.heap.push { cls:=.type "list", data:=.seq ([]:List Value).toArray })=h3 at I3 st3 f3 ⊢
 refine hE.make fun h₄ m₄ tk₄ cenv hns₄ hce₄ keep eE eL=>?_
 rw [eE,eL]
 have I4:=Inv.compG (C:=h3.objs.size) (fp:=fp) (tk:=tk₄) I3 rfl hns₄ hce₄ keep hE.fun_ f3 (hE.cells _) hfree
 have st4:tn 0 h₄:=T.keep _ _ _ st3 fun b _ o e=>keep b o e
 have fpn:∀ b∈fp,(aG H2 D (.lst [])) b=none:=fun b hb=>(f3 b hb).1.1
 have hn3:∀ b∈fp,b≠h3.objs.size:=fun b hb=>Nat.ne_of_lt (f3 b hb).2
 have stat:∀ {H':Hp},(∀ b∈fp,H' b=none)->∀ b∈fp,i9 (nT X N' scope fn (f h3.objs.size) h3.objs.size fp pins { s2 with heap:=h3 } (aG H2 D (.lst []))) [] H' b:=fun hn b hb=>
  ⟨hn b hb,hn3 b hb,I4.ok.exfs b hb,.inl hb,fun x c e=>I4.ok.exf b hb |>.2 x c e,fun p hp=>(f3 b hb).1.2.2.2.2.2 p (by
   have z:p∈(X.pn++pins)++[]:=hp
   rw [List.append_nil] at z;exact z)⟩
 have back:∀ {H':Hp} {s':Shared},Inv (nT X N' scope fn (f h3.objs.size) h3.objs.size fp pins { s2 with heap:=h3 } (aG H2 D (.lst []))) [] (cZ src σ) H' s'->(∃ m,s'.heap.Ns h3.objs.size m)/\Inv X pins σ H' s'/\Dd X pins H' h3.objs.size:=fun {H' s'} I'=>by
  have Ib:Inv X pins σ H' s':=I3.call' I'.os I'.base I'.hok I'.bare fun b hb=>⟨(f3 b hb).1.2.2.2.1,(f3 b hb).1.2.1,(f3 b hb).1.2.2.2.2.1,(f3 b hb).1.2.2.2.2.2⟩
  refine⟨let ⟨m,hm,_⟩:=I'.loc;⟨m,hm⟩,Ib,⟨I'.free,fun z=>?_,I3.nofs (Nat.le_refl _),Heap.get?_none_of_le I3.sz,fun x c e z=>?_,fun p hp z=>?_⟩⟩
  ·have:=I3.lt;rw [← z] at this;exact Nat.lt_irrefl _ this
  ·obtain⟨v,o,ho,_⟩:=I3.cell x c e
   have:=Heap.lt_size ho;rw [z] at this;exact Nat.lt_irrefl _ this
  ·obtain⟨e,_⟩:=I3.pin p hp
   have:=Heap.lt_size e;rw [z] at this;exact Nat.lt_irrefl _ this
 have loop:codeAny (model X.prog X.w) X.A (.compLoop (.ListComp elt [⟨tg,iter,ifs,0⟩] scope pos) 0 (.ref it) (.ref D) (compEnvC scope (f h3.objs.size) h3.objs.size X.env)) (RR (.ref D) h3.objs.size) { s2 with heap:=h₄,toks:=tk₄ }:=by
  refine wA (fun n s'=>∃ i ys H',Inv (nT X N' scope fn (f h3.objs.size) h3.objs.size fp pins { s2 with heap:=h3 } (aG H2 D (.lst []))) [] (cZ src σ) H' s'/\tn i s'.heap/\(∀ b∈fp,H' b=none)/\W i n ys H') ?_ m0 ⟨0,[],_,I4,st4,fpn,w0⟩
  rintro n s5 ⟨i,ys,H5,I5,st5,fr5,w5⟩
  rcases turn i n ys H5 w5 with ⟨stop,qn⟩ | ⟨go,step⟩
  ·refine bX (T.done (nT X N' scope fn (f h3.objs.size) h3.objs.size fp pins { s2 with heap:=h3 } (aG H2 D (.lst []))) rfl rfl rfl hc i [] s5 _ H5 _ I5 (stat fr5) st5 stop) fun r s6 ⟨hr,I6⟩=>?_
   subst hr
   obtain⟨b1,b2,b3⟩:=back I6
   exact hRR D _ H5 s6 qn b1 b2 b3
  ·refine bX (T.item (nT X N' scope fn (f h3.objs.size) h3.objs.size fp pins { s2 with heap:=h3 } (aG H2 D (.lst []))) rfl rfl rfl hc i [] s5 _ H5 _ I5 (stat fr5) st5 go) fun r s6 ⟨u,hr,h6⟩=>?_
   subst hr
   refine bX h6 fun _ s7 ⟨x,H7,I7,r7,y7,st7,fr7⟩=>?_
   have I7':=I7.pinned (stat fr7) (T.obj _ _ st7)
   refine bX (hg _ _ _ _ _ _ s7 _ H7 x u _ I7' r7 (step x H7 y7)) fun _ s8 ⟨σ8,H8,I8,ex8,q8⟩=>?_
   refine bX (ht _ _ _ _ _ _ s8 σ8 H8 _ I8 q8) fun ok s9 ⟨H9,I9,q9⟩=>?_
   have again:∀ {ys':List V} {Ha:Hp} {sa:Shared},Inv (nT X N' scope fn (f h3.objs.size) h3.objs.size fp pins { s2 with heap:=h3 } (aG H2 D (.lst []))) ([]++lU fp s7.heap) σ8 Ha sa->(∃ m',m' < n/\W (i+1) m' ys' Ha)→
     ∃ m,m < n/\∃ i ys H',Inv (nT X N' scope fn (f h3.objs.size) h3.objs.size fp pins { s2 with heap:=h3 } (aG H2 D (.lst []))) [] (cZ src σ) H' sa/\tn i sa.heap/\(∀ b∈fp,H' b=none)/\W i m ys H':=fun {ys' Ha sa} Ia ⟨m',hm,wa⟩=>by
    refine⟨m',hm,i+1,ys',Ha,(Ia.unpinned).weak ex8.1.symm ex8.2,T.keep _ _ _ st7 fun b hb o e=>(Ia.pin (b,o) (List.mem_append_right _ (List.mem_append_right _ (gi hb e)))).1,fun b hb=>?_,wa⟩
    obtain⟨o,e,_⟩:=T.obj _ _ st7 b hb
    exact (Ia.pin (b,o) (List.mem_append_right _ (List.mem_append_right _ (gi hb e)))).2.1
   cases ok with
   | false=>exact again I9 q9
   | true=>
    refine bX (he _ _ _ _ _ _ s9 σ8 H9 _ I9 q9) fun y s10 ⟨yv,H10,I10,r10,q10,hz,wn⟩=>?_
    refine bX (bU _ s10 σ8 H10 (.ref D) [yv] (.ref D) [y] (fun _ Hz=>∃ m',m' < n/\W (i+1) m' (ys++[yv]) Hz) I10 rfl (.cons r10 .nil) ⟨D,ys,yv,rfl,rfl,q10,hz,wn⟩) fun _ s11 ⟨_,H11,I11,_,q11⟩=>?_
    exact again I11 q11
 exact codeAny_compStart_list loop (T.self _ 0 _ _ _ st4 loop)
theorem vS (hc:X.calm=true) (hi:PI X tg iter wi) (hg:∀ C fp pins s H,PG (nT X N' scope fn (f C) C fp pins s H) tg g) (ht:∀ C fp pins s H,G8 (nT X N' scope fn (f C) C fp pins s H) ifs tt)
  (he:∀ C fp pins s H,PE (nT X N' scope fn (f C) C fp pins s H) elt te) (hfree:cH X scope cl N' src) (hclos:closureFor scope X.env=pure cl) (hE:mP X scope fn cl f)
  (hnames:∀ x∈scope.names,x.2=.local->scope.names.lookup x.1=some .local) (hs:∀ x,foldedSetIterable iter X.env x=pure x:=by intro _;rfl) :
  PE X (.ListComp elt [⟨tg,iter,ifs,0⟩] scope pos) (k8 wi src g tt te):=by
 intro pins s σ H Q I h
 rw [eval_ListComp]
 refine wpAny_comprehension_free (use:=none) rfl hs hclos hE.fun_ hnames (nU hc hi hg ht he hfree hE (RR:=fun acc C=>compPost (model X.prog X.w) X.A X.xe none (EP X pins σ Q) acc C) I h fun D C H' s' q hm hI hb=>?_)
 obtain⟨m,hm⟩:=hm
 exact⟨m,hm,fun h' sb=>⟨.ref D,H',hb.turned hI sb,rfl,q⟩⟩
theorem uv {i:Nat} {x:Str} {pos' pos2:Pos} (hN:X.N.Nodup) (hi':X.N[i]?=some x) (hx:wX X.env.scope x) (hc:X.calm=true) (hi:PI X tg iter wi) (hg:∀ C fp pins s H,PG (nT X N' scope fn (f C) C fp pins s H) tg g) (ht:∀ C fp pins s H,G8 (nT X N' scope fn (f C) C fp pins s H) ifs tt)
  (he:∀ C fp pins s H,PE (nT X N' scope fn (f C) C fp pins s H) elt te) (hfree:cH X scope cl N' src) (hclos:closureFor scope X.env=pure cl) (hE:mP X scope fn cl f)
  (hnames:∀ x∈scope.names,x.2=.local->scope.names.lookup x.1=some .local) (hs:∀ x,foldedSetIterable iter X.env x=pure x:=by intro _;rfl)
  (hsw:swapsWith (.ListComp elt [⟨tg,iter,ifs,0⟩] scope pos) (some (.Name x pos')) pos2.line X.env=pure true:=by rfl) (hf:X.fn x=true∨X.env.scope.names.lookup x=some .local:=by first | exact .inl rfl | exact .inr rfl | assumption) :
  PS X (.Assign [.Name x pos'] (.ListComp elt [⟨tg,iter,ifs,0⟩] scope pos) pos2) (qg (k8 wi src g tt te) (ke i)):=by
 intro pins s σ H D I h
 rw [exec_Assign_Name_used _ _ _ _ hsw]
 refine wpAny_bind (wpAny_standAt ?_)
 show wpAny _ _ ((comprehension (.ListComp elt [⟨tg,iter,ifs,0⟩] scope pos) scope X.env _ (newList []) false (eval iter X.env) (some (assign (.Name x pos') X.env)) >>= fun _=>pure ()) >>= fun _=>pure Flow.next) _ _ s
 refine wpAny_bind (wpAny_bind (wpAny_mono (wpAny_comprehension_free (use:=some (assign (.Name x pos') X.env)) (Q:=fun _ s''=>SP X pins D .next s'') rfl hs hclos hE.fun_ hnames (nU hc hi hg ht he hfree hE (RR:=fun acc C=>compPost (model X.prog X.w) X.A X.xe (some (assign (.Name x pos') X.env)) (fun _ s''=>SP X pins D .next s'') acc C) I h fun E C H' s' q hm hI hb=>?_)) (fun _ s'' h''=>wpAny_pure (wpAny_pure h'')) fun _ _ e=>e))
 obtain⟨m,o,es,ep,ho,hd,r1,r2⟩:=hm
 have I':Inv X (pins++[(C,o)]) σ H' s':=hI.pins_of fun p hp=>by
  rcases List.mem_append.mp hp with h | h
  ·exact hI.pin p (List.mem_append_right _ h)
  ·rw [List.mem_singleton] at h
   rw [h]
   exact⟨ho,hb.no,hb.lo,hb.fs,fun v z=>by rw [hd] at z;cases z⟩
 refine wpAny_assign_Name (fJ I' hN hi' hx (show aZ (.ref E) (.ref E) from rfl) (fun s'' I''=>?_) hf)
 have hC:=(I''.pin (C,o) (List.mem_append_right _ (List.mem_append_right _ List.mem_cons_self))).1
 have I3:Inv X pins (σ.set i (some (.ref E))) H' s'':=I''.pins_of fun p hp=>I''.pin p (List.mem_append_right _ (List.mem_append_left _ hp))
 exact⟨m,⟨o,es,ep,hC,hd,r1,r2⟩,fun h' sb=>⟨_,H',hb.turned I3 sb,q⟩⟩
end
def Ii (K:PySem.W.Frag):R2:=fun x y H Q=>∃ d d',bw K H x d/\bw K H y d'/\d.canLay0=true/\d'.canLay0=true/\d.depth≤32/\Q (.bl (!PyData.eqv d d')) H
theorem pA {X:Cx} {k:Nat} (hr:cW k X.A):gF X (compareOp .NotEq) (Ii X.K):=by
 intro pins s σ H x y v u Q I rx ry h
 obtain⟨d,d',hd,hd',c,c',dp,q⟩:=h
 obtain⟨as,ra⟩:=bw.reads I hd rx
 obtain⟨bs,rb⟩:=bw.reads I hd' ry
 exact SeqAt.compareNe_reads ra rb c c' (by have:=hr.units;omega) ⟨.bl _,H,I,rfl,q⟩
noncomputable def L9 (h:Heap) (x:Value) (d:PyData) (y:Value):Bool:=
 open Classical in if y=x then true else if z:∃ d',d'.canLay0=true/\d'.depth≤32/\∃ as,Reads h y d' as then PyData.eqv z.choose d else false
def DW (K:PySem.W.Frag) (H:Hp) (xs:List V):Prop:=∀ x∈xs,∃ d,bw K H x d/\d.canLay0=true/\d.depth≤32
def JS (K:PySem.W.Frag):R2:=fun x y H Q=>∃ a p xs,x=.ref a/\y=.ref p/\aU K H p xs/\V.ref a∈xs/\DW K H xs/\Q (.bl false) H
def JW (K:PySem.W.Frag):V->List V->Hp->VK->Prop:=fun x vs H Q=>∃ p xs a d,x=.ref p/\vs=[.ref a]/\aU K H p xs/\V.ref a∈xs/\DW K H xs/\bw K H (.ref a) d/\d.canLay0=true/\d.depth≤32∧
 ∀ (j:Nat) (v':V),xs[j]?=some v'->(v'=.ref a∨∀ d',bw K H v' d'->d'.canLay0=true->PyData.eqv d' d=true)->Q (.int j) H
end B
namespace B
abbrev R:=Int×Int
def eG (a b:Int):R:=(a / (Int.gcd a b:Int),b / (Int.gcd a b:Int))
structure Wf (n:Nat) (r:R):Prop where
 pos:0 < r.2
 top:r.1.natAbs < 2 ^ n
 bot:r.2.natAbs < 2 ^ n
 cop:Int.gcd r.1 r.2=1
theorem bP {a b:Int} (hb:0 < b):0 < (Int.gcd a b:Int):=by
 have h:Int.gcd a b≠0:=fun z=>by
  have:=(Int.gcd_eq_zero_iff.mp z).2
  omega
 omega
theorem fE (a:Int) {g:Int} (hg:0 < g):(a / g).natAbs≤a.natAbs:=by
 have h1:=Int.ediv_mul_le a (show g≠0 by omega)
 have h2:=Int.lt_ediv_add_one_mul_self a hg
 rcases Int.le_total 0 a with h | h
 ·have h3:=Int.ediv_nonneg h (show 0≤g by omega)
  have h4:a / g≤a / g * g:=by
   have:a / g * 1≤a / g * g:=Int.mul_le_mul_of_nonneg_left (by omega) h3
   omega
  omega
 ·have h3:a / g≤0:=by
   have:=Int.ediv_le_ediv hg h
   rw [Int.zero_ediv] at this;exact this
  have h5:a≤a / g:=by
   have:a / 1≤a / g:=by
    have q:(a / g+1) * g≤(a / g+1) * 1∨0 < a / g+1:=by
     rcases Int.le_total (a / g+1) 0 with z | z
     ·left
      have:=Int.mul_le_mul_of_nonneg_left (a:=1) (b:=g) (c:=-(a / g+1)) (by omega) (by omega)
      have e1:-(a / g+1) * 1=-((a / g+1) * 1):=Int.neg_mul _ _
      have e2:-(a / g+1) * g=-((a / g+1) * g):=Int.neg_mul _ _
      omega
     ·rcases Int.lt_or_eq_of_le z with z | z
      ·right;exact z
      ·left;rw [← z];simp
    rw [Int.ediv_one]
    rcases q with q | q
    ·omega
    ·omega
   rw [Int.ediv_one] at this;exact this
  omega
theorem F6 {n:Nat} {a b:Int} (hb:0 < b) (h1:a.natAbs < 2 ^ n) (h2:b.natAbs < 2 ^ n):Wf n (eG a b):=
 ⟨Int.ediv_pos_of_pos_of_dvd hb (Int.le_of_lt (bP hb)) (Int.gcd_dvd_right a b),Nat.lt_of_le_of_lt (fE _ (bP hb)) h1,Nat.lt_of_le_of_lt (fE _ (bP hb)) h2,Int.gcd_ediv_gcd_ediv_gcd (by have:=bP (a:=a) hb;omega)⟩
def bM (r q:R):R:=eG (r.1 * q.2+q.1 * r.2) (r.2 * q.2)
def dH (r q:R):R:=eG (r.1 * q.1) (r.2 * q.2)
def cS (r q:R):Bool:=decide (r.1 * q.2 < q.1 * r.2)
theorem F1 {x y:Int} {n m:Nat} (h1:x.natAbs < 2 ^ n) (h2:y.natAbs < 2 ^ m):(x * y).natAbs < 2 ^ (n+m):=by
 rw [Int.natAbs_mul,Nat.pow_add]
 exact Nat.mul_lt_mul'' h1 h2
end B
namespace B
open PySem L2 PyProof.Rows
def Lj (i j:Int):Prop:=i.natAbs < 2 ^ 8990/\j.natAbs < 2 ^ 8990
def Lg (_ j:Int):Prop:=0 < j/\j.natAbs < 2 ^ 8990
theorem uR {i:Int} (h:i.natAbs < 2 ^ 8990):Builtin.Int.intBits i≤2 ^ 20:=by
 unfold Builtin.Int.intBits
 split
 ·exact Nat.zero_le _
 ·rename_i z
  have hz:i.natAbs≠0:=fun q=>z (by
   have:i=0:=by omega
   rw [this];rfl)
  have:=(Nat.log2_lt hz).mpr h
  have e:(2:Nat) ^ 20=1048576:=by decide
  omega
section
variable {X:Cx}
theorem cJ:gF X (binaryOp .Mult) (rI Lj fun i j=>.int (i * j)):=G3 fun _ _ _ _ _ _ _ hc q=>mul_int q (IntMulOk.of_bits (uR hc.1) (uR hc.2))
theorem da:gF X (binaryOp .FloorDiv) (rI Lg fun i j=>.int (i / j)):=G3 fun i j _ _ _ _ _ hc q=>by
 have h1:(0:Int) < j:=hc.1
 have h2:j.natAbs < 2 ^ 8990:=hc.2
 refine floordiv_int (by omega) (by rw [Int.fdiv_eq_ediv_of_nonneg i (by omega)];exact q) (.inl (PyProof.noPylong_of_log2 ?_))
 exact Nat.lt_trans ((Nat.log2_lt (show j.natAbs≠0 by omega)).mpr h2) (by decide)
end
def aN (K:PySem.W.Frag) (H H':Hp):Prop:=∀ p xs,bt K H p xs->bt K H' p xs
theorem aN.trans {K:PySem.W.Frag} {H H1 H2:Hp} (a:aN K H H1) (b:aN K H1 H2):aN K H H2:=fun p xs h=>b p xs (a p xs h)
theorem aN.same {K:PySem.W.Frag} {H H':Hp} (s:aB H H'):aN K H H':=fun p xs h=>by
 rcases h with (h | ⟨o,h⟩) | h
 ·exact .inl (.inl (s _ _ h))
 ·exact .inl (.inr ⟨o,s _ _ h⟩)
 ·exact .inr h
theorem aN.new {K:PySem.W.Frag} {H:Hp} {p:Addr} (h:H p=none) (o:HO):aN K H (aG H p o):=aN.same (ap h o)
theorem aN.step {K:PySem.W.Frag} {t:Addr} {H H':Hp} (S:dB t H H'):aN K H H':=fun p xs h=>by
 obtain⟨ys,ht⟩:=S.tp
 rcases h with (h | ⟨o,h⟩) | h
 ·exact .inl (.inl (S.keep _ _ (fun z=>by subst z;rw [h] at ht;cases ht) h))
 ·exact .inl (.inr ⟨o,S.keep _ _ (fun z=>by subst z;rw [h] at ht;cases ht) h⟩)
 ·exact .inr h
theorem aN.up {K:PySem.W.Frag} {H:Hp} {l:Addr} {xs:List V} (h:H l=some (.lst xs)) (ys:List V):aN K H (aG H l (.lst ys)):=aN.step (dB.up h)
def RV (K:PySem.W.Frag) (H:Hp) (v:V) (r:R):Prop:=∃ p,v=.ref p/\bt K H p [.int r.1,.int r.2]
theorem RV.mono {K:PySem.W.Frag} {H H':Hp} {v:V} {r:R} (h:RV K H v r) (t:aN K H H'):RV K H' v r:=let ⟨p,e,q⟩:=h;⟨p,e,t _ _ q⟩
theorem RV.of {K:PySem.W.Frag} {H:Hp} {p:Addr} {a b:Int} (h:H p=some (.tup [.int a,.int b])):RV K H (.ref p) (a,b):=⟨p,rfl,bt.of h⟩
def J2 (K:PySem.W.Frag) (H:Hp) (xs:List V) (rs:List R):Prop:=xs.length=rs.length/\∀ (i:Nat) (x:V) (r:R),xs[i]?=some x->rs[i]?=some r->RV K H x r
theorem J2.at {K:PySem.W.Frag} {H:Hp} {xs:List V} {rs:List R} {i:Nat} {x:V} (h:J2 K H xs rs) (e:xs[i]?=some x):∃ r,rs[i]?=some r/\RV K H x r:=by
 have hi:=(List.getElem?_eq_some_iff.mp e).1
 have hj:i < rs.length:=by rw [← h.1];exact hi
 exact⟨rs[i],List.getElem?_eq_getElem hj,h.2 i x _ e (List.getElem?_eq_getElem hj)⟩
def so (r:R):Nat->R
 | 0=>(1,1)
 | k+1=>dH (so r k) r
def eW (rs:List R):R:=rs.foldl bM (0,1)
def dR (r:R):PyData:=.tuple [.int r.1,.int r.2]
theorem RV.deep {K:PySem.W.Frag} {H:Hp} {v:V} {r:R} (h:RV K H v r):bw K H v (dR r):=by
 obtain⟨p,rfl,q⟩:=h
 exact .tup q (.cons (.int _) (.cons (.int _) .nil))
theorem sZ (r:R):(dR r).canLay0=true:=rfl
theorem ju (r:R):(dR r).depth≤32:=by show max 0 (max 0 0)+1≤32;decide
theorem Gr {r q:R} (h:PyData.eqv (dR r) (dR q)=true):r=q:=by
 have z:(r.1 == q.1 && (r.2 == q.2 && true))=true:=h
 simp only [Bool.and_true,Bool.and_eq_true,beq_iff_eq] at z
 exact Prod.ext z.1 z.2
theorem mz (r:R):PyData.eqv (dR r) (dR r)=true:=by
 show (r.1 == r.1 && (r.2 == r.2 && true))=true
 simp
end B
namespace B
open PySem L2 PyProof.Rows
def dL (rs:List R):PyData:=.list (rs.map dR)
theorem KH (rs:List R):PyData.eqv (dL rs) (dL rs)=true:=by
 show PyData.eqvAll (rs.map dR) (rs.map dR)=true
 induction rs with
 | nil=>rfl
 | cons r rs ih=>
  show (PyData.eqv (dR r) (dR r) && PyData.eqvAll (rs.map dR) (rs.map dR))=true
  rw [mz,ih];rfl
theorem IN (rs:List R):(dL rs).canLay0=true:=by
 show PyData.canLayAll0 (rs.map dR)=true
 induction rs with
 | nil=>rfl
 | cons r rs ih=>
  show (PyData.canLay0 (dR r) && PyData.canLayAll0 (rs.map dR))=true
  rw [sZ,ih];rfl
theorem sY (rs:List R):PyData.depthAll (rs.map dR)≤8:=by
 induction rs with
 | nil=>exact Nat.zero_le _
 | cons r rs ih=>
  have e:PyData.depth (dR r)≤8:=by show max 0 (max 0 0)+1≤8;decide
  show max (PyData.depth (dR r)) (PyData.depthAll (rs.map dR))≤8
  omega
theorem Gw (rs:List R):(dL rs).depth≤32:=by
 have:=sY rs
 have e:(dL rs).depth=1+PyData.depthAll (rs.map dR)∨(dL rs).depth=PyData.depthAll (rs.map dR)+1:=by first | exact .inl rfl | exact .inr rfl
 omega
def IU (K:PySem.W.Frag) (tl:TE):TI:=fun σ H R=>tl σ H fun x H1=>(∃ a,x=.ref a/\(∃ xs,aU K H1 a xs)/\R (GL K a) H1)∨(∃ a,x=.ref a/\(∃ xs,bt K H1 a xs)/\R (A8 K a) H1)
theorem Fe {X:Cx} {tg l:Expr} {tl:TE} (hl:PE X l tl):PI X tg l (IU X.K tl):=by
 intro pins s σ H R I h
 refine bX (hl pins s σ H _ I h) fun v s1 ⟨x,H1,I1,r1,q1⟩=>?_
 rcases q1 with ⟨a,e,⟨xs,hq⟩,q⟩ | ⟨a,e,⟨xs,hq⟩,q⟩
 ·subst e;cases r1
  obtain⟨its,rv,p,hz⟩:=I1.list hq
  refine wpAny_pyIter_list p.isList ?_
  refine⟨s1.heap.objs.size,[s1.heap.objs.size],_,_,H1,rfl,I1.kept (t':=s1.toks) fun b o e=>Heap.get?_push_of_some _ e,nh a _,⟨_,Heap.get?_push_size _ rfl,rfl,rfl⟩,fun b hb=>?_,q⟩
  have e:b=s1.heap.objs.size:=by simpa using hb
  subst e
  exact I1.fpOk (Nat.le_refl _) (I1.hok.fresh (Nat.le_refl _))
 ·subst e;cases r1
  obtain⟨its,rv,p,hz⟩:=I1.tuple hq
  refine wpAny_pyIter_tuple (show s1.heap.IsTuple a its.toArray from p) ?_
  refine⟨s1.heap.objs.size,[s1.heap.objs.size],_,_,H1,rfl,I1.kept (t':=s1.toks) fun b o e=>Heap.get?_push_of_some _ e,kZ a _,⟨_,Heap.get?_push_size _ rfl,rfl,rfl⟩,fun b hb=>?_,q⟩
  have e:b=s1.heap.objs.size:=by simpa using hb
  subst e
  exact I1.fpOk (Nat.le_refl _) (I1.hok.fresh (Nat.le_refl _))
end B
namespace B
structure iC (r:R):Prop where
 pos:0 < r.2
 cop:Int.gcd r.1 r.2=1
theorem jo {a b:Int} (hb:0 < b):iC (eG a b):=
 ⟨Int.ediv_pos_of_pos_of_dvd hb (Int.le_of_lt (bP hb)) (Int.gcd_dvd_right a b),Int.gcd_ediv_gcd_ediv_gcd (by have:=bP (a:=a) hb;omega)⟩
theorem fc {a b x y:Int} (hb:0 < b) (hy:0 < y) (g:Int.gcd x y=1) (e:x * b=a * y):eG a b=(x,y):=by
 have h1:Int.gcd (a * y) (b * y)=Int.gcd a b * y.natAbs:=Int.gcd_mul_right a y b
 have h2:Int.gcd (x * b) (y * b)=Int.gcd x y * b.natAbs:=Int.gcd_mul_right x b y
 rw [e,Int.mul_comm y b,h1,g,Nat.one_mul] at h2
 have h3:(Int.gcd a b:Int) * y=b:=by
  have z:((Int.gcd a b * y.natAbs:Nat):Int)=(b.natAbs:Int):=congrArg _ h2
  rw [Int.natCast_mul,Int.natAbs_of_nonneg (by omega),Int.natAbs_of_nonneg (by omega)] at z
  exact z
 have gp:=bP (a:=a) hb
 have h4:a=x * (Int.gcd a b:Int):=by
  have z:x * (Int.gcd a b:Int) * y=a * y:=by rw [Int.mul_assoc,h3];exact e
  exact (Int.eq_of_mul_eq_mul_right (by omega) z).symm
 unfold eG
 generalize (Int.gcd a b:Int)=G at h3 h4 gp
 subst h4
 subst h3
 rw [Int.mul_ediv_cancel _ (by omega),Int.mul_ediv_cancel_left _ (by omega)]
theorem gU {a b c:Int} (h:Int.gcd a b=1) (d:c∣a):Int.gcd c b=1:=
 Int.gcd_eq_one_iff.mpr fun z h1 h2=>Int.gcd_eq_one_iff.mp h z (Int.dvd_trans h1 d) h2
theorem im {a b c:Int} (h:Int.gcd a b=1) (d:c∣b):Int.gcd a c=1:=by
 rw [Int.gcd_comm]
 exact gU (by rw [Int.gcd_comm];exact h) d
theorem kN {a b c:Int} (h:Int.gcd a b=1) (k:Int.gcd a c=1):Int.gcd a (b * c)=1:=by
 rw [Int.gcd_mul_right_right_of_gcd_eq_one h];exact k
theorem jv {a b c:Int} (h:Int.gcd a c=1) (k:Int.gcd b c=1):Int.gcd (a * b) c=1:=by
 rw [Int.gcd_comm]
 exact kN (by rw [Int.gcd_comm];exact h) (by rw [Int.gcd_comm];exact k)
theorem eS {a b:Int} (hb:0 < b):∃ g x y:Int,(Int.gcd a b:Int)=g/\0 < g/\a=g * x/\b=g * y/\Int.gcd x y=1:=by
 have gp:=bP (a:=a) hb
 obtain⟨x,hx⟩:=Int.gcd_dvd_left a b
 obtain⟨y,hy⟩:=Int.gcd_dvd_right a b
 refine⟨_,x,y,rfl,gp,hx,hy,?_⟩
 have z:=Int.gcd_ediv_gcd_ediv_gcd (i:=a) (j:=b) (by omega)
 have e1:a / (Int.gcd a b:Int)=x:=by
  conv=>lhs;lhs;rw [hx]
  exact Int.mul_ediv_cancel_left _ (by omega)
 have e2:b / (Int.gcd a b:Int)=y:=by
  conv=>lhs;lhs;rw [hy]
  exact Int.mul_ediv_cancel_left _ (by omega)
 rw [e1,e2] at z
 exact z
theorem i6 {g y b:Int} (hb:0 < b) (hg:0 < g) (e:b=g * y):0 < y:=by
 rcases Int.lt_or_le 0 y with h | h
 ·exact h
 ·have:=Int.mul_le_mul_of_nonneg_left h (Int.le_of_lt hg)
  rw [Int.mul_zero] at this
  omega
def qK (r q:R):R:=
 let d:Int:=(Int.gcd r.2 q.2:Nat)
 let t:=r.1 * (q.2 / d)+q.1 * (r.2 / d)
 let e:Int:=(Int.gcd t d:Nat)
 (t / e,r.2 / d * (q.2 / e))
theorem zk {r q:R} (hr:iC r) (hq:iC q):qK r q=bM r q:=by
 obtain⟨d,u,v,e0,dp,e1,e2,cuv⟩:=eS (a:=r.2) hq.pos
 have up:=i6 hr.pos dp e1
 have vp:=i6 hq.pos dp e2
 obtain⟨e,x,w,f0,ep,f1,f2,cxw⟩:=eS (a:=r.1 * v+q.1 * u) dp
 have wp:=i6 dp ep f2
 have du:r.2 / d=u:=by rw [e1];exact Int.mul_ediv_cancel_left _ (by omega)
 have dv:q.2 / d=v:=by rw [e2];exact Int.mul_ediv_cancel_left _ (by omega)
 have te:(r.1 * v+q.1 * u) / e=x:=by rw [f1];exact Int.mul_ediv_cancel_left _ (by omega)
 have qe:q.2 / e=w * v:=by rw [e2,f2,Int.mul_assoc];exact Int.mul_ediv_cancel_left _ (by omega)
 have c1:Int.gcd r.1 u=1:=im hr.cop ⟨d,by rw [e1,Int.mul_comm]⟩
 have c2:Int.gcd q.1 v=1:=im hq.cop ⟨d,by rw [e2,Int.mul_comm]⟩
 have xd:x∣(r.1 * v+q.1 * u):=⟨e,by rw [f1,Int.mul_comm]⟩
 have t1:Int.gcd (r.1 * v+q.1 * u) u=1:=by
  rw [Int.gcd_comm,Int.gcd_add_mul_right_right,Int.gcd_comm]
  exact jv c1 (by rw [Int.gcd_comm];exact cuv)
 have t2:Int.gcd (r.1 * v+q.1 * u) v=1:=by
  rw [Int.add_comm,Int.gcd_comm,Int.gcd_add_mul_right_right,Int.gcd_comm]
  exact jv c2 cuv
 have cx:Int.gcd x (u * (w * v))=1:=kN (gU t1 xd) (kN cxw (gU t2 xd))
 have z:qK r q=(x,u * (w * v)):=by
  unfold qK
  simp only [e0,du,dv,f0,te,qe]
 rw [z]
 unfold bM
 refine (fc (Int.mul_pos hr.pos hq.pos) (Int.mul_pos up (Int.mul_pos wp vp)) cx ?_).symm
 have k:r.1 * q.2+q.1 * r.2=d * (e * x):=by
  rw [e1,e2,← f1,Int.mul_add]
  rw [Int.mul_left_comm r.1 d v,Int.mul_left_comm q.1 d u]
 rw [k,e1,e2]
 have k2:d * u * (d * v)=d * u * (e * w * v):=by rw [← f2]
 rw [k2]
 ac_rfl
def k7 (r q:R):R:=
 let l:Int:=(Int.gcd r.1 q.2:Nat)
 let m:Int:=(Int.gcd q.1 r.2:Nat)
 (r.1 / l * (q.1 / m),r.2 / m * (q.2 / l))
theorem vv {r q:R} (hr:iC r) (hq:iC q):k7 r q=dH r q:=by
 obtain⟨l,a,b,e0,lp,e1,e2,cab⟩:=eS (a:=r.1) hq.pos
 obtain⟨m,c,d,f0,mp,f1,f2,ccd⟩:=eS (a:=q.1) hr.pos
 have bp:=i6 hq.pos lp e2
 have dp:=i6 hr.pos mp f2
 have z:k7 r q=(a * c,d * b):=by
  unfold k7
  simp only [e0,f0]
  rw [show r.1 / l=a by rw [e1];exact Int.mul_ediv_cancel_left _ (by omega),show q.2 / l=b by rw [e2];exact Int.mul_ediv_cancel_left _ (by omega),
   show q.1 / m=c by rw [f1];exact Int.mul_ediv_cancel_left _ (by omega),show r.2 / m=d by rw [f2];exact Int.mul_ediv_cancel_left _ (by omega)]
 have cad:Int.gcd a d=1:=gU (im hr.cop ⟨m,by rw [f2,Int.mul_comm]⟩) ⟨l,by rw [e1,Int.mul_comm]⟩
 have ccb:Int.gcd c b=1:=gU (im hq.cop ⟨l,by rw [e2,Int.mul_comm]⟩) ⟨m,by rw [f1,Int.mul_comm]⟩
 rw [z]
 unfold dH
 refine (fc (Int.mul_pos hr.pos hq.pos) (Int.mul_pos dp bp) (kN (jv cad ccd) (jv cab ccb)) ?_).symm
 rw [e1,e2,f1,f2]
 ac_rfl
theorem zi {r q:R} (hr:iC r) (hq:iC q):iC (bM r q):=jo (Int.mul_pos hr.pos hq.pos)
end B
namespace B
open PySem L2 PyProof.Rows
def Mu (_ j:Int):Prop:=j≠0/\j.natAbs < 2 ^ 8990
def Nb (a b:Int):R:=if b < 0 then eG (-a) (-b) else eG a b
def bu (r q:R):R:=eG (r.1 * q.2 - q.1 * r.2) (r.2 * q.2)
def Iz (r q:R):R:=Nb (r.1 * q.2) (r.2 * q.1)
structure Mi (d:PyData):Prop where
 sh:d.showable=true
 nd:d.hasDict=false
 sz:d.shown.length≤5000
 dp:d.depth≤8
end B
namespace B
theorem nJ {a b:Int} (hb:0 < b):(eG a b).1 * b=a * (eG a b).2:=by
 obtain⟨g,x,y,_,gp,e1,e2,c⟩:=eS (a:=a) hb
 have yp:=i6 hb gp e2
 have e:x * b=a * y:=by rw [e1,e2];ac_rfl
 rw [fc hb yp c e]
 exact e
theorem qO (r q:R):bM r (-q.1,q.2)=bu r q:=by
 unfold bM bu
 rw [Int.neg_mul,← Int.sub_eq_add_neg]
end B
namespace B
open PySem PySem.Spec L2 PyProof.Rows
section
variable {prog:Program} {w:World} {A:Around} {E:Value->Shared->Prop} {h:Heap} {g:Array GenState} {d:Drawn} {t:Nat} {os:OsState} {K:PySem.W.Frag}
variable {nm q:Str} {C N:Addr} {bs bm bmB:List Value} {hdct:Bool} {sn:List Str} {sub:List Value} {ab:Bool} {col:Option Bool} {dd:Option Addr} {k0 k1 k2 k3 k5:Option Value} {bN newId initId:String}
end
def Hk:List Value:=[.type "ValueError", .type "Exception", .type "BaseException", .type "object"]
structure wP (K:PySem.W.Frag) (C:Addr) (bm:List Value):Prop where
 ob:∃ nm q N bs hdct sn sub ab col dd k0 k1 k2 k3 k5,K.lookup C=some (excClassObj nm q C N bs bm hdct sn sub ab col dd k0 k1 k2 k3 k5 "ValueError.__new__")
 tl:∀ h:Heap,K.In h->OwnTail h Hk bm
 hd:PySem.W.hasDictIn K C=true
 sa:PySem.W.findIn K (.ref C) "__setattr__" = some (some (.builtin "object.__setattr__"))
section
variable {prog:Program} {w:World} {A:Around} {s:Shared} {K:PySem.W.Frag} {x C:Addr} {R:Result->Shared->Prop}
end
def Ld (a C:Addr) (dx:Option Addr):Heap->Prop:=fun h=>∃ t:Addr,h.get? a=some { cls:=.ref C,dict:=dx,data:=.fields #[.ref t,.none,.none,.none,.bool false,.none] }
def q5 (a C:Addr) (dx:Option Addr):HO:=.ext (Ld a C dx)
def Mb (H:Hp) (a:Addr):Hp:=fun b=>if b=a then none else H b
section
variable {X:Cx} {pins:List (Addr×Obj)} {σ:L2.St} {H:Hp} {s:Shared} {a C:Addr} {dx:Option Addr}
end
def Mg (h:Heap) (H:Hp) (x C T:Addr) (a0:Value):Prop:=
 ∃ oe vs oT ts,h.get? x=some oe/\oe.cls=.ref C/\vs[0]?=some a0/\oe.data=.fields vs/\vs[1]?=some (.ref T)/\H T=none/\T≠x/\h.get? T=some oT/\oT.data=.fields ts/\ts[3]?=some .none
def Oo (P:Program) (w:World):rG:=fun outer H s E e s'=>∃ (x C T:Addr) (a0:Value) (H':Hp),e=.ref x/\s'.os=s.os/\AllBare s'.gens/\Un (uI outer) [] H H' s.heap s'.heap/\iR P w H' s'.heap/\s.heap.get? x=none/\s.heap.get? T=none/\H' x=none∧
 Mg s'.heap H' x C T a0/\E (.ref C) none H'
structure n9 (X:Cx) (pins:List (Addr×Obj)) (a:Addr):Prop where
 st:X.s₀.heap.get? a=none
 lo:a≠X.env.locals
 ce:∀ x c,X.env.cells.lookup x=some c->c≠a
 pi:∀ p∈X.pn++pins,p.1≠a
 fr:a∉uI X.stack
section
variable {X:Cx} {pins:List (Addr×Obj)} {σ:L2.St} {H H':Hp} {s:Shared} {a:Addr}
end
section
variable {X:Cx} {pins:List (Addr×Obj)} {σ:L2.St} {H:Hp} {s:Shared} {a:Addr} {o:HO}
end
structure XC (K:PySem.W.Frag) (C f:Addr) (bm:List Value):Prop where
 ob:∃ nm q N bs hdct sn sub ab col dd k0 k1 k2 k3 k5,K.lookup C=some (excClassObj nm q C N bs bm hdct sn sub ab col dd k0 k1 k2 k3 k5 "ValueError.__new__")
 tl:∀ h:Heap,K.In h->OwnTail h Hk bm
 init:PySem.W.findIn K (.ref C) "__init__" = some (some (.ref f))
 fn:PySem.W.typeIn K (.ref f)=some (.type "function")
 kp:PySem.W.keepIn K (.ref C)=true
 cl:wP K C bm
section
variable {X:Cx} {k:Nat} {f C:Addr} {fd:FuncData} {ps:List Str} {sp:Sp} {bm:List Value}
def Mh (X:Cx) (E:XK):Prop:=∀ (pins:List (Addr×Obj)) (σ:L2.St) (H:Hp) (s:Shared) (a C:Addr) (oe:Obj) (vs:Array Value) (a0:Value),L2.Inv X pins σ H s->H a=none->n9 X pins a->s.heap.get? a=some oe->oe.data=.fields vs→
 vs[0]?=some a0->vs[1]?=some .none->oe.cls=.ref C->E (.ref C) none H->X.xe (.ref a) s
def Kb (C:Addr) (sp:Sp) (E:XK) (t:TA):TS:=fun _ σ H=>t σ H fun vs H1=>vs.length≤sizeLine/\∀ a,H1 a=none->sp (.ref a :: vs) (aG H1 a (q5 a C none)) (fun v H2=>v=.non/\(∃ dx,H2 a=some (q5 a C dx))/\E (.ref C) none (Mb H2 a)) E0
end
section
variable {X:Cx} {pins:List (Addr×Obj)} {σ:L2.St} {H:Hp} {s:Shared} {a C T:Addr} {a0:Value}
end
def IX (N:List Str):L2.St:=List.replicate N.length none
def NF (X:Cx) (pins:List (Addr×Obj)) (R:Addr->Hp->Prop):Value->Shared->Prop:=fun e s=>∃ (x C T:Addr) (a0:Value) (H:Hp),e=.ref x/\L2.Inv X pins (IX X.N) H s/\H x=none/\n9 X pins x/\n9 X pins T/\Mg s.heap H x C T a0/\R C H
def L4 (X:Cx) (pins:List (Addr×Obj)) (R:Addr->Hp->Prop):Cx:={ X with pn:=X.pn++pins,xe:=NF X pins R }
def L5 (X:Cx) (e:Addr):Cx:={ X with A:=X.A.mark (some (.ref e)),calm:=false,xe:=fun _ _=>False }
section
variable {X:Cx} {pins pins':List (Addr×Obj)} {σ:L2.St} {H:Hp} {s:Shared} {R:Addr->Hp->Prop} {e:Addr}
end
def MG (N:List Str) (R:Addr->Hp->Prop) (Ok:Addr->Prop) (tb:TS) (th:TS):TS:=fun D σ H=>tb D σ H/\∀ C H',R C H'->Ok C/\th D (IX N) H'
section
variable {X:Cx} {R:Addr->Hp->Prop} {body:List Stmt} {b₀:Stmt} {suite:List Stmt} {x:Str} {p hpos pos:Pos} {u:Value} {tb th:TS}
end
section
variable {X:Cx} {o value:Expr} {f:Str} {ta tv:TE} {pos' pos:Pos}
def LH (K:PySem.W.Frag) (ta tv:TE) (f:Str):TS:=fun D σ H=>tv σ H fun _ H1=>ta σ H1 fun x H2=>∃ a C bm,x=.ref a/\H2 a=some (q5 a C none)/\wP K C bm/\dC K C f/\∀ d,D.nx σ (aG H2 a (q5 a C (some d)))
end
def NJ (R:Addr->Hp->Prop):XK:=fun v _ H=>∃ C,v=.ref C/\R C H
def Hy (es:Array DictEntry):Bool:=es.toList.all fun e=>match e.key with
 | .str _ _=>true
 | _=>false
structure GQ (K:PySem.W.Frag) (C:Addr):Prop where
 ga:PySem.W.findIn K (.ref C) "__getattribute__" = some (some (.builtin "BaseException.__getattribute__"))
 gn:PySem.W.findIn K (.ref C) "__getattr__" = some none
 cl:PySem.W.findIn K (.ref C) "__class__" = some (some (.builtin "object.__class__"))
 cg:PySem.W.specialIn K (.builtin "object.__class__") "__get__" = some (some (.builtin "getset_descriptor.__get__"))
 ct:PySem.W.takesIn K (.builtin "object.__class__")=some true
section
variable {prog:Program} {w:World} {A:Around} {E:Value->Shared->Prop} {s:Shared} {K:PySem.W.Frag} {x C:Addr} {ox:Obj} {odo:Option Obj} {bm:List Value} {name:Str} {tk:Tok} {R:Result->Shared->Prop}
end
section
variable {K:PySem.W.Frag} {x C:Addr} {ox od:Obj} {bm:List Value}
end
structure NC (S ch:List Addr) (h h':Heap):Prop where
 same:∀ b o,b∉S->b∉ch->h.get? b=some o->h'.get? b=some o
 slot:∀ b o,b∉ch->h.get? b=some o->∃ sl,h'.get? b=some { o with slots:=sl }
def Ji (h:Heap) (x C T:Addr) (dx:Option Addr) (fl:Value):Prop:=
 ∃ oe vs oT ts,h.get? x=some oe/\oe.cls=.ref C/\oe.dict=dx/\oe.data=.fields vs/\vs[1]?=some (.ref T)/\T≠x/\h.get? T=some oT/\oT.data=.fields ts/\ts[3]?=some fl
section
variable {M:Model} {A:Around} {E:Value->Shared->Prop} {s:Shared} {base:Heap} {env:Env} {outer:List Env} {L e C T:Addr} {oe:Obj} {vs:Array Value} {dx:Option Addr} {fl:Value}
end
def Lf (d:Addr) (fs:List (Str×V)):Heap->Prop:=fun h=>∃ mA,h.Ns1 d mA/\∀ f,gX (fs.lookup f) (mA f)
def dO (d:Addr) (fs:List (Str×V)):HO:=.ext (Lf d fs)
section
variable {X:Cx} {pins:List (Addr×Obj)} {σ:L2.St} {H:Hp} {s:Shared} {a C:Addr}
end
section
variable {X:Cx} {o value:Expr} {f:Str} {ta tv:TE} {pos' pos:Pos}
def LI (K:PySem.W.Frag) (ta tv:TE) (f:Str):TS:=fun D σ H=>tv σ H fun y H1=>ta σ H1 fun x H2=>∃ a C bm,x=.ref a/\wP K C bm/\dC K C f∧
 ((H2 a=some (q5 a C none)/\∀ d,H2 d=none->d≠a->D.nx σ (aG (aG H2 a (q5 a C (some d))) d (dO d [(f,y)])))∨
  ∃ d fs,H2 a=some (q5 a C (some d))/\H2 d=some (dO d fs)/\fs.length≤100/\D.nx σ (aG H2 d (dO d ((f,y) :: fs))))
end
section
variable {X:Cx} {pins:List (Addr×Obj)} {σ:L2.St} {H:Hp} {s:Shared} {a C T:Addr} {dx:Option Addr} {fl:Value}
end
def Op (P:Program) (w:World):rG:=fun outer H s E e s'=>∃ (x C T:Addr) (dx:Option Addr) (H':Hp),e=.ref x/\s'.os=s.os/\AllBare s'.gens/\Un (uI outer) [] H H' s.heap s'.heap/\iR P w H' s'.heap/\s.heap.get? x=none/\s.heap.get? T=none/\H' x=none/\H' T=none∧
 Ji s'.heap x C T dx .none/\E (.ref C) dx H'
section
variable {P:Program} {w:World} {K:PySem.W.Frag} {mg:Str->Option Value} {base:Heap} {N:List Str} {qual:Str} {scope:Scope} {f:Addr} {cd:Value} {A:Around} {outer:List Env} {s:Shared} {H:Hp} {E:XK}
def K1 (X:Cx) (E:XK):Prop:=∀ (pins:List (Addr×Obj)) (σ:L2.St) (H:Hp) (s:Shared) (a C:Addr) (dx:Option Addr) (oe:Obj) (vs:Array Value),L2.Inv X pins σ H s->H a=none->n9 X pins a->s.heap.get? a=some oe->oe.data=.fields vs→
 vs[1]?=some .none->oe.cls=.ref C->oe.dict=dx->E (.ref C) dx H->X.xe (.ref a) s
end
section
variable {X:Cx} {k:Nat} {f C:Addr} {fd:FuncData} {ps:List Str} {sp:Sp} {bm:List Value}
def JH (C:Addr) (sp:Sp) (E:XK) (t:TA):TS:=fun _ σ H=>t σ H fun vs H1=>vs.length≤sizeLine/\∀ a,H1 a=none->sp (.ref a :: vs) (aG H1 a (q5 a C none)) (fun v H2=>v=.non/\∃ dx,H2 a=some (q5 a C dx)/\E (.ref C) dx (Mb H2 a)) E0
end
abbrev RX:=Addr->Option Addr->Hp->Prop
def Lc (X:Cx) (pins:List (Addr×Obj)) (R:RX):Value->Shared->Prop:=fun e s=>∃ (x C T:Addr) (dx:Option Addr) (H:Hp),e=.ref x/\L2.Inv X pins (IX X.N) H s/\H x=none/\n9 X pins x/\H T=none/\n9 X pins T/\Ji s.heap x C T dx .none/\R C dx H
def KC (X:Cx) (pins:List (Addr×Obj)) (R:RX):Cx:={ X with pn:=X.pn++pins,xe:=Lc X pins R }
section
variable {X:Cx} {pins pins':List (Addr×Obj)} {σ:L2.St} {H:Hp} {s:Shared} {R:RX} {e:Addr}
def NK (R:RX):XK:=fun v dx H=>∃ C,v=.ref C/\R C dx H
end
def NI (a C d:Addr):Heap->Prop:=fun h=>∃ oe,h.get? a=some oe/\oe.cls=.ref C/\oe.dict=some d/\PySem.W.notCls oe=true
def Jd (a C d:Addr):HO:=.ext (NI a C d)
def KG (i:Nat) (D:jI):jI:={ nx:=fun σ H=>D.nx (σ.set i none) H,rt:=D.rt,bk:=fun σ H=>D.bk (σ.set i none) H,ct:=fun σ H=>D.ct (σ.set i none) H }
def Lm (N:List Str) (R:RX) (Ok:Addr->Prop) (tb th:TS):TS:=fun D σ H=>tb D σ H/\∀ C dx H',R C dx H'->Ok C/\th D (IX N) H'
def J9 (N:List Str) (i:Nat) (R:RX) (Ok:Addr->Prop) (tb th:TS):TS:=fun D σ H=>tb D σ H/\∀ C dx H',R C dx H'->Ok C/\∃ d,dx=some d/\∀ a,H' a=none->th (KG i D) ((IX N).set i (some (.ref a))) (aG H' a (Jd a C d))
section
variable {X:Cx} {R:RX} {body:List Stmt} {b₀:Stmt} {suite:List Stmt} {x:Str} {p hpos pos:Pos} {u:Value} {tb th:TS}
end
def M8 (K:PySem.W.Frag):List V->Hp->VK->Prop:=fun xs H Q=>∃ (a C d:Addr) (fs:List (Str×V)) (bm:List Value) (c:V) (b:Bool),xs=[.ref a,c]/\H a=some (Jd a C d)/\H d=some (dO d fs)/\wP K C bm/\GQ K C∧
 ((∃ n,c=.ty n/\PySem.W.kitOne K (.ref C) (.type n)=some b)∨(∃ D,c=.ref D/\PySem.W.kitOne K (.ref C) (.ref D)=some b)∨
  ∃ (p:Addr) (cs:List Addr),c=.ref p/\H p=some (.tup (cs.map V.ref))/\PySem.W.kitAny K (.ref C) (cs.map Value.ref)=some b)/\Q (.bl b) H
def DX (H:Hp) (a C d:Addr):Prop:=H a=some (Jd a C d)∨H a=some (q5 a C (some d))
section
variable {X:Cx} {pins:List (Addr×Obj)} {σ:L2.St} {H:Hp} {s:Shared} {a C d:Addr} {fs:List (Str×V)}
end
def Lw (K:PySem.W.Frag) (ta:TE) (f:Str):TE:=fun σ H Q=>ta σ H fun x H1=>∃ a C d fs bm v,x=.ref a/\DX H1 a C d/\H1 d=some (dO d fs)/\wP K C bm/\GQ K C/\dC K C f/\fs.lookup f=some v/\Q v H1
def M7 (K:PySem.W.Frag):List V->Hp->VK->Prop:=fun xs H Q=>∃ (a C d:Addr) (fs:List (Str×V)) (bm:List Value) (c:V) (b:Bool),xs=[.ref a,c]/\DX H a C d/\H d=some (dO d fs)/\wP K C bm/\GQ K C∧
 ((∃ n,c=.ty n/\PySem.W.kitOne K (.ref C) (.type n)=some b)∨(∃ D,c=.ref D/\PySem.W.kitOne K (.ref C) (.ref D)=some b)∨
  ∃ (p:Addr) (cs:List Addr),c=.ref p/\H p=some (.tup (cs.map V.ref))/\PySem.W.kitAny K (.ref C) (cs.map Value.ref)=some b)/\Q (.bl b) H
def Kc (C:Addr) (sp:Sp) (t:TA):TE:=fun σ H Q=>t σ H fun vs H1=>vs.length≤sizeLine/\∀ a,H1 a=none->sp (.ref a :: vs) (aG H1 a (q5 a C none)) (fun v H2=>v=.non/\Q (.ref a) H2) E0
theorem uc {X:Cx} {pins:List (Addr×Obj)} {σ:L2.St} {H:Hp} {s:Shared} {h':Heap} {t':Nat} {fp:List Addr} (I:Inv X pins σ H s)
  (k:∀ b o,b∉fp->s.heap.get? b=some o->h'.get? b=some o) (hf:∀ b∈fp,i9 X pins H b):Inv X pins σ H { s with heap:=h',toks:=t' }:=by
 have off:∀ b u,H b=some u->b∉fp:=fun b u e z=>by rw [(hf b z).1] at e;cases e
 refine I.step (g':=s.gens) (d':=s.drawn) (ch:=fp) (fun b hb=>?_) (fun b o _ _ hc e _=>k b o hc e) (fun b o _ _ hc e _=>⟨o.slots,k b o hc e⟩) (fun _ _ _ _ n=>n)
  (fun b o hc e=>⟨o,k b o hc e⟩) (fun _ _ e=>e) (fun _ _ _ e=>e) (fun b ps e=>⟨#[],by rw [e];simp⟩) (fun m hm=>?_) (fun b u e=>?_) I.bare
 ·obtain⟨_,f1,_,f3,f4,f5⟩:=hf b hb
  exact⟨f3,f1,f4,f5⟩
 ·obtain⟨o,es,ep,ho,r⟩:=hm
  exact⟨o,es,ep,k _ o (fun z=>(hf _ z).2.1 rfl) ho,r⟩
 ·refine (I.hok b u e).stay (fun c v hc q=>k c v ?_ q) (fun _ q=>q) fun _ _ q=>q
  rcases hc with z | z
  ·rw [z];exact off b u e
  ·exact off c _ z
section
variable {prog:Program} {w:World} {A:Around} {E:Value->Shared->Prop} {s:Shared}
theorem Cp {j t:Addr} {k:Nat} {ys:Array Value} {v:Value} {G:Value->Shared->Prop} (a:s.heap.IsTupleIter j t k) (b:s.heap.IsTuple t ys) (c:ys[k]?=some v)
  (g:∀ h',h'.IsTupleIter j t (k+1)->Heap.SameBut j s.heap h'->G v { s with heap:=h' }):wpAny (model prog w) A (Builtin.SmallTypes.nextOf (.ref j)) G E s:=by
 obtain⟨o,e1,e2,e3⟩:=id a
 obtain⟨q,f1,_,n,f2⟩:=b
 unfold Builtin.SmallTypes.nextOf
 refine wpAny_bind (wpAny_callSpecial?_slot (name:=Str.ofString "__next__") a.typeIs F.slot_tuple_iterator_next
  (wpAny_call_entry F.slot_tuple_iterator_next a.typeIs F.entry_tuple_iterator_next ?_ (F.args_tuple_iterator_next_1 _)))
 show wpAny (model prog w) _ (field (.ref j) 0 >>= _) _ _ s
 refine wpAny_bind (wpAny_field e1 e3 (x:=.ref t) rfl ?_)
 show wpAny (model prog w) _ (if (Value.ref t == Value.none)=true then _ else _) _ _ s
 rw [if_neg (fun z=>Bool.noConfusion z:¬ ((Value.ref t == Value.none)=true))]
 show wpAny (model prog w) _ (field (.ref j) 1 >>= _) _ _ s
 refine wpAny_bind (wpAny_field e1 e3 (x:=.int k 0) rfl ?_)
 show wpAny (model prog w) _ (seqItems? (.ref t) >>= _) _ _ s
 refine wpAny_bind (wpAny_seqItems f1 f2 ?_)
 simp only [c,Int.toNat_natCast]
 refine wpAny_bind (wpAny_setField e1 e3 (by simp) (wpAny_pure ⟨v,rfl,wpAny_pure (g _ ?_ (Heap.SameBut.update ..))⟩))
 refine⟨_,Heap.get?_update_self _ e1 (Obj.isFreed_of_fields (Obj.data_mapFields e3 _)),(Obj.cls_mapFields ..).trans e2,?_⟩
 rw [Obj.data_mapFields e3];simp [rawInt]
theorem zX {j t:Addr} {k:Nat} {ys:Array Value} {G:Value->Shared->Prop} (hh:A.handled=none) (a:s.heap.IsTupleIter j t k) (b:s.heap.IsTuple t ys) (c:ys[k]?=none)
  (g:∀ h' e,Heap.ExtBut j s.heap h'->(∃ o,h'.get? e=some o/\o.cls=.type "StopIteration")->E (.ref e) { s with heap:=h' }):wpAny (model prog w) A (Builtin.SmallTypes.nextOf (.ref j)) G E s:=by
 obtain⟨o,e1,e2,e3⟩:=id a
 obtain⟨q,f1,_,n,f2⟩:=b
 unfold Builtin.SmallTypes.nextOf
 refine wpAny_bind (wpAny_callSpecial?_slot (name:=Str.ofString "__next__") a.typeIs F.slot_tuple_iterator_next
  (wpAny_call_entry F.slot_tuple_iterator_next a.typeIs F.entry_tuple_iterator_next ?_ (F.args_tuple_iterator_next_1 _)))
 show wpAny (model prog w) _ (field (.ref j) 0 >>= _) _ _ s
 refine wpAny_bind (wpAny_field e1 e3 (x:=.ref t) rfl ?_)
 show wpAny (model prog w) _ (if (Value.ref t == Value.none)=true then _ else _) _ _ s
 rw [if_neg (fun z=>Bool.noConfusion z:¬ ((Value.ref t == Value.none)=true))]
 show wpAny (model prog w) _ (field (.ref j) 1 >>= _) _ _ s
 refine wpAny_bind (wpAny_field e1 e3 (x:=.int k 0) rfl ?_)
 show wpAny (model prog w) _ (seqItems? (.ref t) >>= _) _ _ s
 refine wpAny_bind (wpAny_seqItems f1 f2 ?_)
 simp only [c,Int.toNat_natCast]
 refine wpAny_bind (wpAny_rule (wpAny_bind (wpAny_setField e1 e3 (by simp) ?_)))
 show wpAny (model prog w) _ (newExc (.type "StopIteration") [] >>= _) _ _ _
 refine wpAny_bind ?_
 simp only [newTuple,newExc]
 refine wpAny_bind (wpAny_newObj_type ?_ (by size_fits))
 refine wpAny_bind (m:=firstArgMember _ _) (wpAny_of_eq (a:=Value.none) (by first | rfl | (simp only [firstArgMember] <;> rfl)) ?_)
 refine wpAny_newObj_type ?_ (by size_fits)
 simp only [raiseNew]
 refine wpAny_bind (wpAny_handled ?_)
 first | rw [hh] | rw [show A.in1.handled=none from hh]
 refine wpAny_bind (wpAny_pure (wpAny_throw (g _ _ (((Heap.SameBut.update ..).extBut.push _).push _) ⟨_,Heap.get?_push_size _ rfl,rfl⟩)))
structure NG (z TI TO i1 i2:Addr):Prop where
 a1:TI≠z
 a2:TO≠z
 a3:i1≠z
 a4:i2≠z
 a5:TI≠TO
 a6:TI≠i1
 a7:TI≠i2
 a8:TO≠i1
 a9:TO≠i2
 b1:i1≠i2
end
theorem ub {X:Cx} {pins:List (Addr×Obj)} {σ:L2.St} {H:Hp} {s:Shared} {h':Heap} {t':Nat} {fp:List Addr} {p:Addr} {v:HO} (I:Inv X pins σ H s)
  (k:∀ b o,b∉fp->s.heap.get? b=some o->h'.get? b=some o) (hf:∀ b∈fp,i9 X pins H b) (hp:s.heap.objs.size≤p) (new:bE X.prog X.w (aG H p v) h' p v) :
  Inv X pins σ (aG H p v) { s with heap:=h',toks:=t' }:=by
 have off:∀ b u,H b=some u->b∉fp:=fun b u e z=>by rw [(hf b z).1] at e;cases e
 have hn:H p=none:=I.hok.fresh hp
 have old:∀ b u,H b=some u->aG H p v b=some u:=fun b u e=>by rw [az (aK e hn)];exact e
 refine I.step (g':=s.gens) (d':=s.drawn) (ch:=fp) (fun b hb=>?_) (fun b o _ _ hc e _=>k b o hc e) (fun b o _ _ hc e _=>⟨o.slots,k b o hc e⟩) (fun b o _ e n=>?_)
  (fun b o hc e=>⟨o,k b o hc e⟩) (fun b xs e=>old b _ e) (fun b o u e=>old b _ e) (fun b ps e=>⟨#[],by rw [old b _ e];simp⟩) (fun m hm=>?_) (fun b u e=>?_) I.bare
 ·obtain⟨_,f1,_,f3,f4,f5⟩:=hf b hb
  exact⟨f3,f1,f4,f5⟩
 ·rw [az (Nat.ne_of_lt (Nat.lt_of_lt_of_le (Heap.lt_size e) hp))];exact n
 ·obtain⟨o,es,ep,ho,r⟩:=hm
  exact⟨o,es,ep,k _ o (fun z=>(hf _ z).2.1 rfl) ho,r⟩
 ·by_cases hb:b=p
  ·subst hb;rw [ai] at e;cases e;exact new
  ·rw [az hb] at e
   refine (I.hok b u e).stay (fun c v hc q=>k c v ?_ q) (fun c q=>old c _ q) fun c xs q=>old c _ q
   rcases hc with z | z
   ·rw [z];exact off b u e
   ·exact off c _ z
theorem Bj {X:Cx} {pins:List (Addr×Obj)} {σ:L2.St} {H:Hp} {s:Shared} {a b:Addr} {xs:List V} (I:Inv X pins σ H s) (h:bt X.K H a xs) (f:i9 X pins H b):a≠b:=fun z=>by
 subst z
 rcases h with (h | ⟨o,h⟩) | ⟨o,its,n,hk,_⟩
 ·rw [f.1] at h;cases h
 ·rw [f.1] at h;cases h
 ·have e:=I.ok.mod.kin a o hk
  rcases f.2.2.2.1 with z | z
  ·exact I.ok.noex a o e z
  ·rw [(I.ok.bs a o e).1] at z;cases z
def ND (K:PySem.W.Frag) (a b:Addr):It:=
 ⟨fun i H=>∃ xs ys x y,bt K H a xs/\bt K H b ys/\xs[i]?=some x/\ys[i]?=some y,
  fun i H v H'=>∃ p x y,H p=none/\v=.ref p/\H'=aG H p (.tup [x,y])/\(∀ xs,bt K H a xs->xs[i]?=some x)/\∀ ys,bt K H b ys->ys[i]?=some y,
  fun i H=>∃ xs ys,bt K H a xs/\bt K H b ys/\(xs.length≤i∨ys.length≤i)⟩
def N8 (z TI TO i1 i2 a b:Addr) (i:Nat) (h:Heap):Prop:=IsZip h z TI TO .none/\IsPair h TI (.ref i1) (.ref i2)/\(∃ u v,IsPair h TO u v)/\h.IsTupleIter i1 a i/\h.IsTupleIter i2 b i
theorem k6 {h h':Heap} {i a:Addr} {n:Nat} (x:h.IsTupleIter i a n) (k:∀ o,h.get? i=some o->h'.get? i=some o):h'.IsTupleIter i a n:=let ⟨o,e,r⟩:=x;⟨o,k o e,r⟩
theorem xg {h h':Heap} {a:Addr} {ys:Array Value} (x:h.IsTuple a ys) (k:∀ o,h.get? a=some o->h'.get? a=some o):h'.IsTuple a ys:=let ⟨o,e,r⟩:=x;⟨o,k o e,r⟩
abbrev zA (h:Heap) (a:Addr):Heap:=h.push { cls:=.type "tuple_iterator", data:=.fields #[.ref a,.int 0 0] }
abbrev zB (h:Heap) (a b:Addr):Heap:=zA (zA h a) b
abbrev zC (h:Heap) (a b:Addr):Heap:=(zB h a b).push { cls:=.type "tuple", data:=.seq #[.ref h.objs.size,.ref (zA h a).objs.size] }
abbrev zD (h:Heap) (a b:Addr):Heap:=(zC h a b).push { cls:=.type "tuple", data:=.seq #[.none,.none] }
abbrev zE (h:Heap) (a b:Addr):Heap:=(zD h a b).push { cls:=.type "zip", data:=.fields #[.none,.bool false,.bool false,.ref (zB h a b).objs.size,.ref (zC h a b).objs.size] }
def Nf (K:PySem.W.Frag) (ta:TA):TI:=fun σ H R=>ta σ H fun vs H1=>∃ a b,vs=[.ref a,.ref b]/\(∃ xs,bt K H1 a xs)/\(∃ ys,bt K H1 b ys)/\R (ND K a b) H1
theorem wm {prog:Program} {w:World} {A:Around} (hh:A.handled=none) (it a:Addr) (ne:a≠it) (items:Array Value) :
  Draws prog w A it [it,a] items.size (fun i v=>items[i]?=some v) (fun i h=>h.IsTupleIter it a i/\h.IsTuple a items) where
 live:=fun _ _ st=>let ⟨o,ho,_⟩:=st.1;⟨o,ho⟩
 frame:=fun _ _ _ st hk=>⟨k6 st.1 fun o e=>hk it (by simp) o e,xg st.2 fun o e=>hk a (by simp) o e⟩
 item:=fun i s Q E hi st hQ=>by
  have hx:items[i]?=some (items[i]'hi):=Array.getElem?_eq_getElem hi
  exact Cp st.1 st.2 hx fun h' i' sb=>hQ _ h' s.toks hx ⟨i',xg st.2 fun o e=>sb.extBut _ _ ne e⟩ sb
 done:=fun s Q E st hE=>zX hh st.1 st.2 (by simp) hE
theorem wg (a:Addr) (xs:Array Value):Meets (Builtin.«enumerate.__new__» ⟨[.type "enumerate", .ref a],[]⟩) (fun _ R s=>s.heap.IsTuple a xs∧
   R (.ok (.ret (.ref (zA s.heap a).objs.size))) { s with heap:=(zA s.heap a).push { cls:=.type "enumerate", data:=.fields #[.none,.bool false,.ref s.heap.objs.size,rawInt 0,.none,.none] } }):=
 .of_wp fun prog w A R s h=>by
  obtain⟨hp,g,d,tk,os⟩:=s;obtain⟨hl,h⟩:=h
  obtain⟨⟨c,dct,dt,sl⟩,ho,hc,n,hd⟩:=id hl
  replace hc:c=.type "tuple" := hc
  replace hd:dt=.seq xs n:=hd
  subst hc hd
  have hsub:=sub_enumerate
  have L:Heap.IsTuple (Shared.heap ⟨hp,g,d,tk,os⟩) a xs:=hl
  wp_walk using AutoSeq1.wpAny_loadPart' ho
  refine wpAny_stack_any fun st=>wpAny_pure ?_
  split
  ·rename_i c _ _ _ _ _
   cases (c == Value.type "enumerate")
   ·wp_walk using AutoSeq1.wpAny_loadPart' ho,wpAny_pyIter_tuple L
    exact⟨_,rfl,h⟩
   ·wp_walk using AutoSeq1.wpAny_loadPart' ho,wpAny_pyIter_tuple L
    exact⟨_,rfl,h⟩
  ·wp_walk using AutoSeq1.wpAny_loadPart' ho,wpAny_pyIter_tuple L
   exact⟨_,rfl,h⟩
theorem tw {prog:Program} {w:World} {A:Around} {E:Value->Shared->Prop} {s:Shared} {a:Addr} {items:Array Value} {Q:Value->Shared->Prop} (hL:s.heap.IsTuple a items)
  (h:∀ h',IsEnum h' (s.heap.objs.size+1) s.heap.objs.size 0 .none->h'.IsTupleIter s.heap.objs.size a 0->h'.objs.size=s.heap.objs.size+2→
   (∀ b o,s.heap.get? b=some o->h'.get? b=some o)->Q (.ref (s.heap.objs.size+1)) { s with heap:=h' }) :
  wpAny (model prog w) A (call (.type "enumerate") [.ref a]) Q E s:=by
 refine callType_new F.called_enumerate (by decide) (F.typeCall_enumerate_1 _) (F.newCall_enumerate_1 _) (fun obj=>F.args_object_init_2 obj _) F.entry_enumerate_new
  (wg a items) ⟨hL,?_⟩
 have hz:(zA s.heap a).objs.size=s.heap.objs.size+1:=Heap.size_push ..
 show _/\_
 rw [hz]
 have he:IsEnum ((zA s.heap a).push { cls:=.type "enumerate", data:=.fields #[.none,.bool false,.ref s.heap.objs.size,rawInt 0,.none,.none] }) (s.heap.objs.size+1) s.heap.objs.size 0 .none:=by
  have:=Heap.get?_push_size (zA s.heap a) (o:={ cls:=.type "enumerate", data:=.fields #[.none,.bool false,.ref s.heap.objs.size,rawInt 0,.none,.none] }) rfl
  rw [hz] at this;exact this
 refine⟨⟨_,he,rfl⟩,h _ he ⟨_,Heap.get?_push_of_some _ (Heap.get?_push_size _ rfl),rfl,rfl⟩ (by rw [Heap.size_push,hz]) fun b o x=>Heap.get?_push_of_some _ (Heap.get?_push_of_some _ x)⟩
theorem Bm {X:Cx} {pins:List (Addr×Obj)} {σ:L2.St} {H:Hp} {s:Shared} {a b:Addr} {xs:List V} (I:Inv X pins σ H s) (h:aU X.K H a xs) (f:i9 X pins H b):a≠b:=fun z=>by
 subst z
 rcases h with (h | ⟨o,h⟩) | ⟨o,its,n,hk,_⟩
 ·rw [f.1] at h;cases h
 ·rw [f.1] at h;cases h
 ·have e:=I.ok.mod.kin a o hk
  rcases f.2.2.2.1 with z | z
  ·exact I.ok.noex a o e z
  ·rw [(I.ok.bs a o e).1] at z;cases z
theorem sR {h h':Heap} {i a:Addr} {n:Nat} (x:h.IsListIter i a n) (k:∀ o,h.get? i=some o->h'.get? i=some o):h'.IsListIter i a n:=x.at k
structure Le (K:PySem.W.Frag) (sq:Hp->Addr->List V->Prop) (tn:Heap->Addr->Addr->Nat->Prop) (st:Heap->Addr->Array Value->Prop):Prop where
 ob:∀ {h i a n},tn h i a n->∃ o,h.get? i=some o/\∀ v,o.data≠.cell v
 at_:∀ {h h' i a n},tn h i a n->(∀ o,h.get? i=some o->h'.get? i=some o)->tn h' i a n
 off:∀ {X:Cx} {pins:List (Addr×Obj)} {σ:L2.St} {H:Hp} {s:Shared} {a b:Addr} {xs:List V},X.K=K->Inv X pins σ H s->sq H a xs->i9 X pins H b->a≠b
 rd:∀ {X:Cx} {pins:List (Addr×Obj)} {σ:L2.St} {H:Hp} {s:Shared} {a:Addr} {xs:List V},X.K=K->Inv X pins σ H s->sq H a xs->(∀ ys,sq H a ys->ys=xs)/\∃ its:List Value,aX xs its/\st s.heap a its.toArray
 dr:∀ {prog:Program} {w:World} {A:Around},A.handled=none->∀ it a:Addr,a≠it->∀ items:Array Value,Draws prog w A it [it,a] items.size (fun i v=>items[i]?=some v) (fun i h=>tn h it a i/\st h a items)
 en:∀ {prog:Program} {w:World} {A:Around} {s:Shared} {it a:Addr} {i:Nat} {items:Array Value} {Q E:Value->Shared->Prop},A.handled=none->tn s.heap it a i->st s.heap a items->items[i]?=none→
  (∀ h' e,Heap.ExtBut it s.heap h'->(∃ o,h'.get? e=some o/\o.cls=.type "StopIteration")->E (.ref e) { s with heap:=h' })->wpAny (model prog w) A (Builtin.SmallTypes.nextOf (.ref it)) Q E s
theorem KJ (K:PySem.W.Frag):Le K (bt K) (fun h i a n=>h.IsTupleIter i a n) (fun h a xs=>h.IsTuple a xs) where
 ob:=fun⟨o,h,_,d⟩=>⟨o,h,fun v q=>by rw [d] at q;cases q⟩
 at_:=k6
 off:=fun e I h f=>Bj I (e ▸ h) f
 rd:=fun e I h=>by subst e;exact⟨fun ys h'=>I.tuple_inj h' h,let ⟨its,rv,p,_⟩:=I.tuple h;⟨its,rv,p⟩⟩
 dr:=wm
 en:=zX
theorem KL (K:PySem.W.Frag):Le K (aU K) (fun h i a n=>h.IsListIter i a n) (fun h a xs=>h.IsList a xs) where
 ob:=fun⟨o,h,_,d⟩=>⟨o,h,fun v q=>by rw [d] at q;cases q⟩
 at_:=sR
 off:=fun e I h f=>Bm I (e ▸ h) f
 rd:=fun e I h=>by subst e;exact⟨fun ys h'=>I.list_inj h' h,let ⟨its,rv,p,_⟩:=I.list h;⟨its,rv,p.isList⟩⟩
 dr:=Draws.list
 en:=wpAny_nextOf_list_end
def wM (sq:Hp->Addr->List V->Prop) (a:Addr):It:=
 ⟨fun i H=>∃ xs x,sq H a xs/\xs[i]?=some x,
  fun i H v H'=>∃ p x,H p=none/\v=.ref p/\H'=aG H p (.tup [.int i,x])/\∀ xs,sq H a xs->xs[i]?=some x,
  fun i H=>∃ xs,sq H a xs/\xs.length≤i⟩
abbrev Jt (K:PySem.W.Frag) (a:Addr):It:=wM (bt K) a
abbrev Ju (K:PySem.W.Frag) (a:Addr):It:=wM (aU K) a
theorem qd {P:Program} {w:World} {K:PySem.W.Frag} {sq:Hp->Addr->List V->Prop} {tn:Heap->Addr->Addr->Nat->Prop} {st_:Heap->Addr->Array Value->Prop} (G:Le K sq tn st_) {elts:List Expr} {x1} {pos:Pos} {e it a:Addr} (hei:e≠it) :
  tH P w K (.Tuple elts x1 pos) (wM sq a) [e,it] e (fun i h=>(∃ old,IsEnum h e it (i:Nat) old)/\tn h it a i) where
 mem:=by simp
 obj:=fun i h st c hc=>by
  obtain⟨⟨old,h1⟩,h2⟩:=st
  obtain⟨o2,h2,d2⟩:=G.ob h2
  simp only [List.mem_cons,List.not_mem_nil,or_false] at hc
  rcases hc with rfl | rfl
  ·exact⟨_,h1,fun v q=>by cases (show Data.fields _=Data.cell v from q)⟩
  ·exact⟨o2,h2,d2⟩
 keep:=fun i h h' st k=>by
  obtain⟨⟨old,h1⟩,h2⟩:=st
  exact⟨⟨old,k e (by simp) _ h1⟩,G.at_ h2 fun o q=>k it (by simp) o q⟩
 item:=by
  intro X hP hw hK hc i pins s σ H E I hf st hg
  subst hP hw
  obtain⟨xs,x,q1,hx⟩:=hg
  obtain⟨uq,its,rv,p1⟩:=G.rd hK I q1
  obtain⟨u,hu,ru⟩:=rv.get hx
  have off:∀ c∈[e,it],a≠c:=fun c hc=>G.off hK I q1 (hf c hc)
  obtain⟨⟨old,h1⟩,h2⟩:=st
  have hh:X.A.in1.handled=none:=I.ok.hd hc
  have na:a≠it:=off it (by simp)
  have ne:e∉[it,a]:=fun q=>by
   simp only [List.mem_cons,List.not_mem_nil,or_false] at q
   rcases q with q | q
   ·exact hei q
   ·exact off e (by simp) q.symm
  have hi:i < its.toArray.size:=by have:=(List.getElem?_eq_some_iff.mp hu).1;simpa using this
  have el:e < s.heap.objs.size:=Heap.lt_size h1
  have il:it < s.heap.objs.size:=by obtain⟨o2,q2,_⟩:=G.ob h2;exact Heap.lt_size q2
  refine wpAny_pyNext_enum_itemD (G.dr hh it a na its.toArray) h1 ⟨h2,p1⟩ hi hei ne fun v h' tk hv eo st' tup hz hk=>⟨_,rfl,wpAny_letOwnedTupleGo_enum eo fun h'' e2 sb=>?_⟩
  have ev:v=u:=by
   have:its.toArray[i]?=some u:=by simpa using hu
   rw [this] at hv
   exact (Option.some.inj hv).symm
  subst ev
  have nt:s.heap.objs.size≠e:=Nat.ne_of_gt el
  have ni:s.heap.objs.size≠it:=Nat.ne_of_gt il
  have P:bE X.prog X.w (aG H s.heap.objs.size (.tup [.int i,x])) h'' s.heap.objs.size (.tup [.int i,x]):=
   ⟨by show 2≤sizeLine;decide,[.int i tk,v],.cons ⟨_,rfl⟩ (.cons ru .nil),⟨_,sb.extBut _ _ nt tup,rfl,_,rfl⟩⟩
  have I2:Inv X pins σ (aG H s.heap.objs.size (.tup [.int i,x])) { s with heap:=h'',toks:=tk+1 }:=ub I (fun c o' n q=>by
   have n1:c≠e:=fun r=>n (by simp [r])
   have n2:c≠it:=fun r=>n (by simp [r])
   exact sb.extBut _ _ n1 (hk c o' n1 n2 q)) hf (Nat.le_refl _) P
  refine⟨.ref s.heap.objs.size,_,I2,rfl,⟨_,x,I.fresh,rfl,rfl,fun ys hy=>by rw [uq ys hy];exact hx⟩,⟨⟨_,by simpa using e2⟩,G.at_ st'.1 fun o q=>sb.extBut _ _ hei.symm q⟩,fun c hc=>?_⟩
  have lt:c < s.heap.objs.size:=by
   simp only [List.mem_cons,List.not_mem_nil,or_false] at hc
   rcases hc with rfl | rfl
   ·exact el
   ·exact il
  rw [az (Nat.ne_of_lt lt)]
  exact (hf c hc).1
 done:=by
  intro X hP hw hK hc i pins s σ H E I hf st hg
  subst hP hw
  obtain⟨xs,q1,hx⟩:=hg
  obtain⟨uq,its,rv,p1⟩:=G.rd hK I q1
  have off:∀ c∈[e,it],a≠c:=fun c hc=>G.off hK I q1 (hf c hc)
  obtain⟨⟨old,h1⟩,h2⟩:=st
  have hh:X.A.in1.handled=none:=I.ok.hd hc
  have hl:=rv.length
  have nn:its.toArray[i]?=none:=by rw [Array.getElem?_eq_none_iff];simp;omega
  have hT:s.TypeIs (.ref e) "enumerate" := ⟨_,h1,rfl⟩
  unfold pyNext
  refine wpAny_bind (wpAny_attempt (wpAny_callSpecial?_slot (name:=Str.ofString "__next__") hT F.slot_enumerate_next
   (wpAny_call_entry F.slot_enumerate_next hT F.entry_enumerate_next ?_ (F.args_enumerate_next_1 _))))
  show wpAny _ _ (field (.ref e) 2 >>= _) _ _ _
  refine wpAny_bind (wpAny_field h1 rfl (x:=.ref it) rfl ?_)
  refine wpAny_bind (G.en hh h2 p1 nn fun h' x he' hx'=>?_)
  obtain⟨o,ho,hcl⟩:=hx'
  refine wpAny_bind (wpAny_isInstance (T := "StopIteration") (b:=true) ⟨o,ho,hcl⟩ isSubtype_stop ?_)
  refine wpAny_pure ⟨rfl,?_⟩
  exact uc (t':=s.toks) I (fun c o' n q=>he' c o' (fun r=>n (by simp [r])) q) hf
 self:=fun A i s Q E st h=>by
  obtain⟨⟨old,h1⟩,_⟩:=st
  exact wpAny_pyIter_enum h1 h
def IV (K:PySem.W.Frag) (ta:TA):TI:=fun σ H R=>ta σ H fun vs H1=>∃ a,vs=[.ref a]/\(∃ xs,bt K H1 a xs)/\R (Jt K a) H1
theorem B6 {X:Cx} {elts:List Expr} {x1} {tp p pos:Pos} {a:Expr} {ta:TA} (hg:Gl X "enumerate") (hm:X.mg "enumerate" = none) (ha:PA X [a] ta) (hs:starEach [a] X.env=[(false,eval a X.env)]:=by rfl) :
  PI X (.Tuple elts x1 tp) (.Call (.Name "enumerate" p) [a] [] pos) (IV X.K ta):=by
 intro pins s σ H R I h
 refine Call_ (gQ I hg hm (show bootBuiltins "enumerate" = some (.type "enumerate") by kernel_rfl) (PyProof.Rows.callWith_type1 (bX (ha pos pins s σ H _ I h) fun us s1 ⟨vs,H1,I1,r1,q1⟩=>?_) hs rfl))
 obtain⟨a,e,⟨xs,hx⟩,q⟩:=q1
 subst e
 obtain⟨u,rfl,ru⟩:=r1.one
 cases ru
 obtain⟨its,_,p1,_⟩:=I1.tuple hx
 refine tw p1 fun h' he hi sz kk=>wpAny_pyIter_enum he ?_
 have I2:Inv X pins σ H1 { s1 with heap:=h' }:=I1.kept (t':=s1.toks) kk
 refine⟨_,[s1.heap.objs.size+1,s1.heap.objs.size],_,_,H1,rfl,I2,qd (KJ _) (a:=a) (Nat.succ_ne_self _),⟨⟨_,he⟩,hi⟩,fun c hc=>?_,q⟩
 have le:s1.heap.objs.size≤c:=by
  simp only [List.mem_cons,List.not_mem_nil,or_false] at hc
  rcases hc with h | h
  ·rw [h];exact Nat.le_succ _
  ·rw [h];exact Nat.le_refl _
 exact I1.fpOk le (I1.hok.fresh le)
theorem nO {sq:Hp->Addr->List V->Prop} {a:Addr} {xs:List V} {g:TG} {tb:TS} {D:jI} {σ:L2.St} {H:Hp} (Pv:Nat->L2.St->Hp->Prop) (h0:Pv 0 σ H)
  (hl:∀ i σ H,i≤xs.length->Pv i σ H->sq H a xs)
  (hs:∀ i x p σ H,xs[i]?=some x->Pv i σ H->H p=none->g (.ref p) σ (aG H p (.tup [.int i,x])) fun σ2 H2=>tb { D with nx:=Pv (i+1),ct:=Pv (i+1),bk:=D.nx } σ2 H2) (hd:∀ σ H,Pv xs.length σ H->D.nx σ H) :
  ∃ W:Nat->Nat->L2.St->Hp->Prop,(∃ m,W 0 m σ H)/\∀ i m σ H,W i m σ H→
   ((wM sq a).stop i H/\D.nx σ H)∨((wM sq a).go i H/\∃ N:L2.St->Hp->Prop,(∀ σ' H',N σ' H'->∃ m',m' < m/\W (i+1) m' σ' H')/\∀ x H',(wM sq a).yld i H x H'->g x σ H' fun σ2 H2=>tb { D with nx:=N,ct:=N,bk:=D.nx } σ2 H2):=by
 refine⟨fun i m σ H=>m=xs.length - i/\i≤xs.length/\Pv i σ H,⟨_,rfl,Nat.zero_le _,h0⟩,?_⟩
 rintro i m σ H ⟨rfl,hi,p⟩
 have q:=hl i σ H hi p
 by_cases hlt:i < xs.length
 ·refine .inr ⟨⟨xs,_,q,List.getElem?_eq_getElem hlt⟩,Pv (i+1),fun σ' H' p'=>⟨xs.length - (i+1),by omega,rfl,hlt,p'⟩,fun x H' y=>?_⟩
  obtain⟨pp,v,hp,rfl,rfl,hv⟩:=y
  exact hs i v pp σ _ (hv xs q) p hp
 ·have e:i=xs.length:=by omega
  subst e
  exact .inl ⟨⟨xs,q,Nat.le_refl _⟩,hd σ H p⟩
def IW (K:PySem.W.Frag) (ta:TA):TI:=fun σ H R=>ta σ H fun vs H1=>∃ a,vs=[.ref a]/\(∃ xs,aU K H1 a xs)/\R (Ju K a) H1
theorem zq {X:Cx} {elts:List Expr} {x1} {tp p pos:Pos} {a:Expr} {ta:TA} (hg:Gl X "enumerate") (hm:X.mg "enumerate" = none) (ha:PA X [a] ta) (hs:starEach [a] X.env=[(false,eval a X.env)]:=by rfl) :
  PI X (.Tuple elts x1 tp) (.Call (.Name "enumerate" p) [a] [] pos) (IW X.K ta):=by
 intro pins s σ H R I h
 refine Call_ (gQ I hg hm (show bootBuiltins "enumerate" = some (.type "enumerate") by kernel_rfl) (PyProof.Rows.callWith_type1 (bX (ha pos pins s σ H _ I h) fun us s1 ⟨vs,H1,I1,r1,q1⟩=>?_) hs rfl))
 obtain⟨a,e,⟨xs,hx⟩,q⟩:=q1
 subst e
 obtain⟨u,rfl,ru⟩:=r1.one
 cases ru
 obtain⟨its,_,p1,_⟩:=I1.list hx
 refine call_enumerate_list p1.isList fun h' he hi sz kk=>wpAny_pyIter_enum he ?_
 have I2:Inv X pins σ H1 { s1 with heap:=h' }:=I1.kept (t':=s1.toks) kk
 refine⟨_,[s1.heap.objs.size+1,s1.heap.objs.size],_,_,H1,rfl,I2,qd (KL _) (a:=a) (Nat.succ_ne_self _),⟨⟨_,he⟩,hi⟩,fun c hc=>?_,q⟩
 have le:s1.heap.objs.size≤c:=by
  simp only [List.mem_cons,List.not_mem_nil,or_false] at hc
  rcases hc with h | h
  ·rw [h];exact Nat.le_succ _
  ·rw [h];exact Nat.le_refl _
 exact I1.fpOk le (I1.hok.fresh le)
section
variable {prog:Program} {w:World} {A:Around} {E:Value->Shared->Prop}
end
def Ng (K:PySem.W.Frag) (n:Nat) (t:wL):TG:=fun v σ H Q=>∃ a xs,v=.ref a/\aU K H a xs/\xs.length=n/\t xs σ H Q
section
variable {prog:Program} {w:World} {A:Around} {E:Value->Shared->Prop} {s:Shared}
open HT in
theorem qf {t sl:Addr} {items:Array Value} {vl vu:Value} {lo hi:Option Int} {Q:Value->Shared->Prop} (ht:IsTup s.heap t items) (hs:s.heap.IsSliceOf sl vl vu .none) (pl:IsPart vl lo) (pu:IsPart vu hi)
  (h1:sIx items.size 0 lo=0) (h2:sIx items.size items.size hi=items.size) (h:Q (.ref t) s):wpAny (model prog w) A (getItem (.ref t) (.ref sl)) Q E s:=by
 obtain⟨os,hos,hcs,hds⟩:=id hs
 have hTs:s.TypeIs (.ref sl) "slice" := ⟨os,hos,hcs⟩
 unfold getItem
 try with_reducible refine wpAny_holding ?_
 first | refine wpAny_bind (wpAny_pure ?_) | skip
 refine wpAny_bind (wpAny_sequenceKey ht.typeIs (by decide) ?_)
 refine wpAny_bind (wpAny_callSpecial?_slot (name:=Str.ofString "__getitem__") ht.typeIs PyProof.Rows.slot_tuple_getitem
  (wpAny_call_entry PyProof.Rows.slot_tuple_getitem ht.typeIs entry_tuple_getitem ?_ (args_tuple_getitem _ _)))
 show wpAny _ _ (Builtin.Tuple.tupleItemsOf (.ref t) >>= _) _ _ s
 refine wpAny_bind (tupleItemsOf_ ht ?_)
 refine wpAny_bind (wpAny_typeOf hTs ?_)
 rw [if_pos (by decide)]
 refine wpAny_bind (fK hs pl pu ?_)
 have hyes:((((sIx items.size 0 lo:Nat):Int) == 0 && (1:Int) == 1 && (sIx items.size items.size hi - sIx items.size 0 lo) == items.size)=true):=by
  rw [h1,h2];simp
 show wpAny _ _ (if (((sIx items.size 0 lo:Nat):Int) == 0 && (1:Int) == 1 && (sIx items.size items.size hi - sIx items.size 0 lo) == items.size)=true then _ else _) _ _ s
 rw [if_pos hyes]
 refine wpAny_bind ?_
 unfold Builtin.Tuple.tupleIsExact
 refine wpAny_bind (wpAny_typeOf ht.typeIs ?_)
 refine wpAny_pure ?_
 rw [if_pos (by decide)]
 exact wpAny_bind (wpAny_rule (wpAny_pure ⟨_,rfl,wpAny_pure h⟩))
end
def HZ (K:PySem.W.Frag):V->Option Int->Option Int->Hp->VK->Prop:=fun x lo hi H Q=>∃ a xs,x=.ref a/\bt K H a xs/\HT.sIx xs.length 0 lo=0/\HT.sIx xs.length xs.length hi=xs.length/\Q (.ref a) H
theorem BC {X:Cx}:wT X (HZ X.K):=by
 intro pins s σ H x v vl vu lo hi sl Q I rx hs pl pu h
 obtain⟨a,xs,rfl,hx,h1,h2,q⟩:=h
 cases rx
 obtain⟨its,r,ht,hz⟩:=I.tuple hx
 have hlen:its.toArray.size=xs.length:=by rw [List.size_toArray];exact r.length.symm
 refine⟨"tuple", _,PyProof.Rows.slot_tuple_getitem.lookup,ht.typeIs,?_⟩
 exact qf ht hs pl pu (by rw [hlen];exact h1) (by rw [hlen];exact h2) ⟨.ref a,H,I,rfl,q⟩
theorem BF {X:Cx}:wT X (fun x lo hi H Q=>HZ X.K x lo hi H Q∨Ic X.K x lo hi H Q):=wT.or BC Ef
end B
namespace B
theorem F7 {a b c d:Int} (hb:0 < b) (hd:0 < d) (e:a * d=c * b):eG a b=eG c d:=by
 have hr:=jo (a:=c) hd
 have hc:=nJ (a:=c) hd
 generalize eG c d=m at hr hc ⊢
 refine fc hb hr.pos hr.cop ?_
 refine Int.eq_of_mul_eq_mul_right (show d≠0 by omega) ?_
 have e1:m.1 * b * d=m.1 * d * b:=by ac_rfl
 have e2:a * m.2 * d=a * d * m.2:=by ac_rfl
 rw [e1,hc,e2,e]
 ac_rfl
structure Bq (D N:Nat) (r:R):Prop where
 pos:0 < r.2
 cop:Int.gcd r.1 r.2=1
 dvd:r.2∣(D:Int)
 le:r.1.natAbs≤N * r.2.natAbs
theorem Bq.red {D N:Nat} {r:R} (h:Bq D N r):iC r:=⟨h.pos,h.cop⟩
theorem uQ {D N:Nat} {a b:Int} (hb:0 < b) (hd:b∣(D:Int)) (hl:a.natAbs≤N * b.natAbs):Bq D N (eG a b):=by
 obtain⟨g,x,y,e0,gp,e1,e2,c⟩:=eS (a:=a) hb
 have yp:=i6 hb gp e2
 have e:eG a b=(x,y):=by
  unfold eG
  rw [e0,show a / g=x by rw [e1];exact Int.mul_ediv_cancel_left _ (by omega),show b / g=y by rw [e2];exact Int.mul_ediv_cancel_left _ (by omega)]
 rw [e]
 refine⟨yp,c,Int.dvd_trans ⟨g,by rw [e2,Int.mul_comm]⟩ hd,?_⟩
 rw [e1,e2,Int.natAbs_mul,Int.natAbs_mul] at hl
 have gn:0 < g.natAbs:=by omega
 refine Nat.le_of_mul_le_mul_left (c:=g.natAbs) ?_ gn
 show g.natAbs * x.natAbs≤g.natAbs * (N * y.natAbs)
 rw [Nat.mul_left_comm]
 exact hl
theorem Bq.mono {D N D' N':Nat} {r:R} (h:Bq D N r) (hd:D∣D') (hn:N≤N'):Bq D' N' r:=
 ⟨h.pos,h.cop,Int.dvd_trans h.dvd (Int.ofNat_dvd.mpr hd),Nat.le_trans h.le (Nat.mul_le_mul_right _ hn)⟩
theorem Bq.plus {D N M:Nat} {r q:R} (hD:0 < D) (h:Bq D N r) (k:Bq D M q):Bq D (N+M) (bM r q):=by
 obtain⟨y,ey⟩:=h.dvd
 obtain⟨v,ev⟩:=k.dvd
 have dp:(0:Int) < (D:Int):=by omega
 have e:bM r q=eG (r.1 * y+q.1 * v) (D:Int):=by
  unfold bM
  refine F7 (Int.mul_pos h.pos k.pos) dp ?_
  rw [Int.add_mul,Int.add_mul]
  have a1:r.1 * q.2 * (D:Int)=r.1 * y * (r.2 * q.2):=by rw [ey];ac_rfl
  have a2:q.1 * r.2 * (D:Int)=q.1 * v * (r.2 * q.2):=by rw [ev];ac_rfl
  rw [a1,a2]
 rw [e]
 refine uQ dp (Int.dvd_refl _) ?_
 have b1:(r.1 * y).natAbs≤N * D:=by
  have:(D:Int).natAbs=r.2.natAbs * y.natAbs:=by rw [ey,Int.natAbs_mul]
  rw [Int.natAbs_mul]
  have z:=Nat.mul_le_mul_right y.natAbs h.le
  rw [Nat.mul_assoc,← this] at z
  simpa using z
 have b2:(q.1 * v).natAbs≤M * D:=by
  have:(D:Int).natAbs=q.2.natAbs * v.natAbs:=by rw [ev,Int.natAbs_mul]
  rw [Int.natAbs_mul]
  have z:=Nat.mul_le_mul_right v.natAbs k.le
  rw [Nat.mul_assoc,← this] at z
  simpa using z
 have b3:=Int.natAbs_add_le (r.1 * y) (q.1 * v)
 have b4:(D:Int).natAbs=D:=Int.natAbs_natCast D
 rw [b4,Nat.add_mul]
 omega
theorem Bq.neg {D N:Nat} {r:R} (h:Bq D N r):Bq D N (-r.1,r.2):=⟨h.pos,by show Int.gcd (-r.1) r.2=1;rw [Int.neg_gcd];exact h.cop,h.dvd,by show (-r.1).natAbs≤_;rw [Int.natAbs_neg];exact h.le⟩
theorem Bq.minus {D N M:Nat} {r q:R} (hD:0 < D) (h:Bq D N r) (k:Bq D M q):Bq D (N+M) (bu r q):=by
 rw [← qO]
 exact h.plus hD k.neg
theorem Bq.times {D N E M:Nat} {r q:R} (h:Bq D N r) (k:Bq E M q):Bq (D * E) (N * M) (dH r q):=by
 refine uQ (Int.mul_pos h.pos k.pos) ?_ ?_
 ·rw [Int.natCast_mul];exact Int.mul_dvd_mul h.dvd k.dvd
 ·rw [Int.natAbs_mul,Int.natAbs_mul]
  have z:=Nat.mul_le_mul h.le k.le
  calc r.1.natAbs * q.1.natAbs≤N * r.2.natAbs * (M * q.2.natAbs):=z
   _=N * M * (r.2.natAbs * q.2.natAbs):=by ac_rfl
theorem Cz {a b:Int} (ha:0 < a) (hb:0 < b):0 < (eG a b).1:=Int.ediv_pos_of_pos_of_dvd ha (Int.le_of_lt (bP hb)) (Int.gcd_dvd_left a b)
theorem Bq.bot {D N:Nat} {r:R} (hD:0 < D) (h:Bq D N r):r.2.natAbs≤D:=by
 have:=Int.natAbs_dvd_natAbs.mpr h.dvd
 rw [Int.natAbs_natCast] at this
 exact Nat.le_of_dvd hD this
theorem Bq.wf {D N n:Nat} {r:R} (h:Bq D N r) (hD:0 < D) (h1:D < 2 ^ n) (h2:N * D < 2 ^ n):Wf n r:=
 ⟨h.pos,Nat.lt_of_le_of_lt (Nat.le_trans h.le (Nat.mul_le_mul_left _ (h.bot hD))) h2,Nat.lt_of_le_of_lt (h.bot hD) h1,h.cop⟩
theorem Ae {r q:R}:cS r q=true↔r.1 * q.2 < q.1 * r.2:=by unfold cS;exact decide_eq_true_iff
theorem qR {r q:R}:cS r q=false↔q.1 * r.2≤r.1 * q.2:=by unfold cS;rw [decide_eq_false_iff_not,Int.not_lt]
theorem z8 {a b:Int} (ha:0≤a):0≤(eG a b).1:=Int.ediv_nonneg ha (by omega)
theorem B3 {r q:R} (hr:iC r) (hq:iC q) (h1:0≤r.1) (h2:0≤q.1):0≤(bM r q).1:=
 z8 (Int.add_nonneg (Int.mul_nonneg h1 (Int.le_of_lt hq.pos)) (Int.mul_nonneg h2 (Int.le_of_lt hr.pos)))
end B
namespace B
open PySem PySem.Spec L2 PyProof.Rows
inductive Rl where
 | pow (k:Int)
 | tab (rows:List (R×R))
def sf:R×R:=((0,1),(0,1))
def Ee (lo hi:R×R):R:=Iz (bu hi.2 lo.2) (bu hi.1 lo.1)
def JQ (rows:List (R×R)) (k:Nat):R:=Ee (rows.getD k sf) (rows.getD (k+1) sf)
def Iy (rows:List (R×R)) (s:R):Nat:=rows.countP fun r=>cS r.1 s
def Im (rows:List (R×R)) (s:R):Nat:=rows.countP fun r=>!cS s r.1
def IM (rows:List (R×R)) (s:R):R:=if Iy rows s=0 then (0,1) else JQ rows (Iy rows s - 1)
def EO (rows:List (R×R)) (s:R):Option R:=if Im rows s < rows.length then some (JQ rows (Im rows s - 1)) else none
def Iq (k:Int) (s:R):R:=dH (k,1) (so s (k - 1).toNat)
def JR:Rl->R->R×Option R
 | .pow k,s=>(Iq k s,some (Iq k s))
 | .tab rows,s=>(IM rows s,EO rows s)
def NE (rows:List (R×R)):Prop:=rows.Pairwise fun a b=>cS a.1 b.1=true
def NO (rows:List (R×R)):Prop:=∀ r∈rows,0 < r.1.2
abbrev D0:Nat:=5822723907000000000
abbrev N0:Nat:=1000000007
abbrev N1:Nat:=17179869184
abbrev NR:Nat:=11000000077
abbrev N2:Nat:=1180591620717411303424
structure GG (rows:List (R×R)):Prop where
 n2:2≤rows.length
 n12:rows.length≤12
 inc:NE rows
 zero:∃ y,rows[0]?=some ((0,1),y)
 sp:∀ r∈rows,Bq D0 NR r.1
 pw:∀ r∈rows,Bq (D0 * D0) N2 r.2
def Nu:Rl->Prop
 | .pow k=>2≤k/\k≤4
 | .tab rows=>GG rows
structure Nt (s:R):Prop where
 bq:Bq (D0 * 2) N1 s
 nn:0≤s.1
def Mx:Rl->R->Prop
 | .pow _,_=>True
 | .tab rows,s=>∃ r,rows[rows.length - 1]?=some r/\cS r.1 s=false
def N3 (rows:List (R×R)) (s:R) (i:Nat):R:=if 0 < Iy rows s/\Iy rows s - 1 < i then JQ rows (Iy rows s - 1) else (0,1)
def NX (rows:List (R×R)) (s:R) (i:Nat):Option R:=if 0 < Im rows s/\Im rows s - 1 < i then some (JQ rows (Im rows s - 1)) else none
def LW (k:Int) (s:R) (j:Nat):R:=eG (k * s.1 ^ j) (s.2 ^ j)
def Md (l:R) (r:Option R) (g:R):Bool:=!cS g l && (match r with | none=>true | some x=>!cS x g)
end B
namespace B
def val (r:R):Rat:=(r.1:Rat) / (r.2:Rat)
theorem cK {b:Int} (h:0 < b):(b:Rat)≠0:=fun z=>by
 have:b=0:=Rat.intCast_inj.mp (by rw [z];rfl)
 omega
theorem DY {r:R} {a b:Int} (hr:0 < r.2) (hb:(b:Rat)≠0) (h:r.1 * b=a * r.2):val r=(a:Rat) / (b:Rat):=by
 have h2:(r.1:Rat) * (b:Rat)=(a:Rat) * (r.2:Rat):=by rw [← Rat.intCast_mul,← Rat.intCast_mul,h]
 have h1:=cK hr
 unfold val
 generalize (r.1:Rat)=x at *
 generalize (r.2:Rat)=y at *
 generalize (a:Rat)=u at *
 generalize (b:Rat)=v at *
 grind
theorem kU {a b:Int} (hb:0 < b):val (eG a b)=(a:Rat) / (b:Rat):=DY (jo hb).pos (cK hb) (nJ hb)
theorem jc {r q:R} (hr:0 < r.2) (hq:0 < q.2):val (bM r q)=val r+val q:=by
 unfold bM
 rw [kU (Int.mul_pos hr hq)]
 have h1:=cK hr
 have h2:=cK hq
 unfold val
 rw [Rat.intCast_add,Rat.intCast_mul,Rat.intCast_mul,Rat.intCast_mul]
 generalize (r.1:Rat)=x at *
 generalize (r.2:Rat)=y at *
 generalize (q.1:Rat)=u at *
 generalize (q.2:Rat)=v at *
 grind
theorem df {r q:R} (hr:0 < r.2) (hq:0 < q.2):val (bu r q)=val r - val q:=by
 unfold bu
 rw [kU (Int.mul_pos hr hq)]
 have h1:=cK hr
 have h2:=cK hq
 unfold val
 rw [Rat.intCast_sub,Rat.intCast_mul,Rat.intCast_mul,Rat.intCast_mul]
 generalize (r.1:Rat)=x at *
 generalize (r.2:Rat)=y at *
 generalize (q.1:Rat)=u at *
 generalize (q.2:Rat)=v at *
 grind
theorem vm {r q:R} (hr:0 < r.2) (hq:0 < q.2):val (dH r q)=val r * val q:=by
 unfold dH
 rw [kU (Int.mul_pos hr hq)]
 have h1:=cK hr
 have h2:=cK hq
 unfold val
 rw [Rat.intCast_mul,Rat.intCast_mul]
 generalize (r.1:Rat)=x at *
 generalize (r.2:Rat)=y at *
 generalize (q.1:Rat)=u at *
 generalize (q.2:Rat)=v at *
 grind
theorem eN {r q:R} (hr:iC r) (hq:iC q) (h:val r=val q):r=q:=by
 have h1:=cK hr.pos
 have h2:=cK hq.pos
 have e:r.1 * q.2=q.1 * r.2:=by
  refine Rat.intCast_inj.mp ?_
  rw [Rat.intCast_mul,Rat.intCast_mul]
  unfold val at h
  generalize (r.1:Rat)=x at *
  generalize (r.2:Rat)=y at *
  generalize (q.1:Rat)=u at *
  generalize (q.2:Rat)=v at *
  grind
 have e1:eG r.1 r.2=(r.1,r.2):=fc hr.pos hr.pos hr.cop rfl
 have e2:eG r.1 r.2=(q.1,q.2):=fc hr.pos hq.pos hq.cop e.symm
 exact e1.symm.trans e2
theorem dX {r:R} (hr:0 < r.2):val r=0↔r.1=0:=by
 have h1:=cK hr
 unfold val
 constructor
 ·intro h
  refine Rat.intCast_inj.mp ?_
  show (r.1:Rat)=((0:Int):Rat)
  rw [show ((0:Int):Rat)=0 from rfl]
  generalize (r.1:Rat)=x at *
  generalize (r.2:Rat)=y at *
  grind
 ·intro h
  rw [h]
  show ((0:Int):Rat) / _=0
  rw [show ((0:Int):Rat)=0 from rfl]
  generalize (r.2:Rat)=y at *
  grind
end B
namespace B
def NW (rows:List (R×R)) (i:Nat):Rat:=(val (rows.getD (i+1) sf).2 - val (rows.getD i sf).2) / (val (rows.getD (i+1) sf).1 - val (rows.getD i sf).1)
section
variable {s p:Nat->Rat} {n:Nat}
def sl (s p:Nat->Rat) (i:Nat):Rat:=(p (i+1) - p i) / (s (i+1) - s i)
end
end B
namespace B
open PySem PySem.Spec L2 PyProof.Rows
structure QE (X:Cx) (e:Expr) (t:TE):Prop where
 p:PE X e t
structure QT (X:Cx) (e:Expr) (t:TT):Prop where
 p:PT X e t
structure QW (X:Cx) (e:Expr) (t:TT):Prop where
 p:PW X e t
structure QA (X:Cx) (es:List Expr) (t:TA):Prop where
 p:PA X es t
structure QS (X:Cx) (st:Stmt) (t:TS):Prop where
 p:PS X st t
structure db (X:Cx) (st:List Stmt) (t:TS):Prop where
 p:tK X st t
structure QI (X:Cx) (tg iter:Expr) (wi:TI):Prop where
 p:PI X tg iter wi
structure QG (X:Cx) (target:Expr) (t:TG):Prop where
 p:PG X target t
structure Jn (X:Cx) (ts:List Expr) (t:wL):Prop where
 p:G9 X ts t
theorem db.ok {X:Cx} {b:List Stmt} {t:TS} {D:jI} {σ:L2.St} {H:Hp} (h:db X b t) (r:t D σ H):∃ t:TS,tK X b t/\t D σ H:=⟨t,h.p,r⟩
structure QO (X:Cx) (o:Option Expr) (t:L2.TO):Prop where
 p:PO X o t
section
set_option autoImplicit true
set_option relaxedAutoImplicit true
theorem qv  (i:Nat) {x:Str} {pos:Pos} (hN:X.N[i]?=some x:=by rfl) (hv:Jh X.env.scope x:=by first | exact Or.inl rfl | exact Or.inr (Or.inl rfl) | exact Or.inr (Or.inr rfl)) (hd:(x == ("__debug__" : Str))=false:=by decide) (hcd:(x == ("__classdict__" : Str))=false:=by decide):QE X (.Name x pos) (D6 i):=⟨pv i hN hv hd hcd⟩
theorem aj  {i j pos}:QE X (.Constant (.int i) j pos) (tC (.int i)):=⟨Fn ⟩
theorem lT  {b j pos}:QE X (.Constant (.bool b) j pos) (tC (.bl b)):=⟨Iw ⟩
theorem y8  {j pos}:QE X (.Constant .none j pos) (tC .non):=⟨Fk ⟩
theorem c6  {x:Str} {v:V} {u:Value} {pos:Pos} (hg:Gl X x) (hm:X.mg x=some u) (r:aZ v u) (hd:(x == ("__debug__" : Str))=false:=by decide):QE X (.Name x pos) (tC v):=⟨Cc hg hm r hd⟩
theorem o5  {x:Str} {v:V} {u:Value} {pos:Pos} (hg:Gl X x) (hm:X.mg x=none) (hv:bootBuiltins x=some u) (r:aZ v u) (hn:x ≠ "__name__" := by decide) (hd:(x == ("__debug__" : Str))=false:=by decide):QE X (.Name x pos) (tC v):=⟨Cf hg hm hv r hn hd⟩
theorem qG  {op:UnaryOp} {r:V->Hp->VK->Prop} (ho:J1 X (unaryOp op) r) (ha:QE X a ta):QE X (.UnaryOp op a pos) (Ll r ta):=⟨Ir ho ha.p⟩
theorem EY  (ha:QE X a ta):QE X (.UnaryOp .Not a pos) (Dm ta):=⟨Fj ha.p⟩
theorem aJ  {op:Operator} {r:R2} (ho:gF X (binaryOp op) r) (ha:QE X a ta) (hb:QE X b tb):QE X (.BinOp a op b pos) (Bg r ta tb):=⟨Is ho ha.p hb.p⟩
theorem jV  {op} {t:TE} (h:QE X a t):QE X (.BoolOp op [a] pos) t:=⟨Fi h.p⟩
theorem jW {eh:List Expr} (ha:QE X a ta) (hb:QE X (.BoolOp .And (b :: eh) pos) tb):QE X (.BoolOp .And (a :: b :: eh) pos) (Ds ta tb):=⟨Fp ha.p hb.p⟩
theorem eQ  {op:CmpOp} {r:R2} (ho:gF X (compareOp op) r) (ha:QE X a ta) (hb:QE X b tb) (hm:behindInMarks op b=false):QE X (.Compare a [op] [b] pos) (Bg r ta tb):=⟨Cd ho ha.p hb.p hm⟩
theorem qH  {op op':CmpOp} {r r':R2} (ho:gF X (compareOp op) r) (ho':gF X (compareOp op') r') (ha:QE X a ta) (hb:QE X b tb) (hc:QE X c tc) (hm:lastMarks [op,op'] [b,c]=false:=by with_unfolding_all rfl):QE X (.Compare a [op,op'] [b,c] pos) (xx r r' ta tb tc):=⟨zI ho ho' ha.p hb.p hc.p hm⟩
theorem za  {c:Expr} (hc:QT X c tA) (ha:QE X a ta) (hb:QE X b tb):QE X (.IfExp c a b pos) (Lv tA ta tb):=⟨zF hc.p ha.p hb.p⟩
theorem ck  (h:QA X es t):QE X (.List es pos) (Hs t):=⟨Fm h.p⟩
theorem cj  {x1} (h:QA X es t):QE X (.Tuple es x1 pos) (Hn t):=⟨Fh h.p⟩
theorem lS {lo hi:Option Expr} {r:V->Option Int->Option Int->Hp->VK->Prop} (hr:wT X r) (he:QE X e te) (hl:QO X lo tl) (hu:QO X hi th):QE X (.Subscript e (.Slice lo hi none p2) pos) (Lo r te tl th):=⟨zw hr he.p hl.p hu.p⟩
theorem ur   : QO X none ud:=⟨B2 ⟩
theorem kG  (h:QE X e te):QO X (some e) (Dl te):=⟨B1 h.p⟩
theorem bL  {r:R2} (hr:uZ X r) (ha:QE X a ta) (hb:QE X b tb) (hs:pY b):QE X (.Subscript a b pos) (Bg r ta tb):=⟨Iu hr ha.p hb.p hs⟩
theorem kJ  (F:bo X.prog X.w X.K X.mg X.base CX k f fd ps sp) (hr:cW k X.A) (hg:Gl X x) (hm:X.mg x=some (.ref f)) (hk:PySem.W.keepIn X.K (.ref f)=true) (hb:aL X.K fd ps ds) (hd:aX dvs ds) (hx:fi CX X E) (ha:QA X (e :: es) t) (hdb:(x == ("__debug__" : Str))=false:=by decide) (he:starEach (e :: es) X.env=(false,eval e X.env) :: starEach es X.env:=by rfl) (hpl:(backTo pos (starEach es X.env)).any (·.1)=false:=by rfl):QE X (.Call (.Name x p) (e :: es) [] pos) (xy sp dvs E t):=⟨Ce F hr hg hm hk hb hd hx ha.p hdb he hpl⟩
theorem aQ {id:String} (hc:dD X (.builtin id) r) (hg:Gl X x) (hm:X.mg x=none) (hv:bootBuiltins x=some (.builtin id)) (ha:QA X (e :: es) t) (hn:x ≠ "__name__" := by decide) (hdb:(x == ("__debug__" : Str))=false:=by decide) (he:starEach (e :: es) X.env=(false,eval e X.env) :: starEach es X.env:=by rfl) (hpl:(backTo pos (starEach es X.env)).any (·.1)=false:=by rfl):QE X (.Call (.Name x p) (e :: es) [] pos) (JK r t):=⟨zJ hc hg hm hv ha.p hn hdb he hpl⟩
theorem bK  (hc:dD X (.type T) r) (hg:Gl X x) (hm:X.mg x=none) (hv:bootBuiltins x=some (.type T)) (ha:QA X (e :: es) t) (hn:x ≠ "__name__" := by decide) (hdb:(x == ("__debug__" : Str))=false:=by decide) (he:starEach (e :: es) X.env=(false,eval e X.env) :: starEach es X.env:=by rfl) (hpl:(backTo pos (starEach es X.env)).any (·.1)=false:=by rfl):QE X (.Call (.Name x p) (e :: es) [] pos) (JK r t):=⟨vT hc hg hm hv ha.p hn hdb he hpl⟩
theorem fO {id:String} (pa:PlainAttrs T) (slot:Slot T name id) (hty:typeOf (.builtin id)=pure (.type "method_descriptor")) (hm:Mo X id r) (ho:QE X o to) (ha:QA X (e :: es) t) (hbase:attributeBase o name X.env (eval o X.env)=eval o X.env:=by rfl) (hfew:((backTo cpos (starEach (e :: es) X.env)).all (fun x=>!x.1) && (backToKw cpos (keywordEach [] X.env)).all (fun x=>x.1.isSome)
   && decide ((e :: es).length+([]:List Keyword).length+(if ([]:List Keyword).isEmpty then 0 else 1) < 30))=true:=by rfl) (hline:(apos.endLine == cpos.line)=true:=by rfl) (hs:starEach (e :: es) X.env=(false,eval e X.env) :: starEach es X.env:=by rfl) (hplain:(backTo cpos (starEach es X.env)).any (·.1)=false:=by rfl):QE X (.Call (.Attribute o name apos) (e :: es) [] cpos) (LA X.K T r to t):=⟨Iv pa slot hty hm ho.p ha.p hbase hfew hline hs hplain⟩
theorem ah   : QA X [] vx:=⟨Fq ⟩
theorem ae  (ha:QE X e te) (hr:QA X es t) (hs:starEach (e :: es) X.env=(false,eval e X.env) :: starEach es X.env:=by rfl):QA X (e :: es) (Dr te t):=⟨Cg ha.p hr.p hs⟩
theorem bj  {op:CmpOp} {r:R2} (ho:gF X (compareOp op) r) (ha:QE X a ta) (hb:QE X b tb) (hm:behindInMarks op b=false):QT X (.Compare a [op] [b] pos) (Dj (Bg r ta tb)):=⟨BW ho ha.p hb.p hm⟩
theorem cU  {e:Expr} {t:TE} (h:QE X e t) (he:∀ whole,isTrue e X.env whole=(do let v ← whole;standAt e.pos;holding [v] (truthy v)):=by intro _;rfl):QT X e (tB t):=⟨E3 h.p he⟩
theorem fD  (ha:QT X a tA):QT X (.UnaryOp .Not a pos) (Hr tA):=⟨E4 ha.p⟩
theorem oY {eh:List Expr} (ha:QT X a tA) (hb:QW X (.BoolOp .And (b :: eh) pos) tB'):QW X (.BoolOp .And (a :: b :: eh) pos) (Hx tA tB'):=⟨E1 ha.p hb.p⟩
theorem oX  (ha:QT X a tA):QW X (.BoolOp .And [a] pos) tA:=⟨BR ha.p⟩
theorem yW {eh:List Expr} (ha:QT X a tA) (hb:QW X (.BoolOp .Or (b :: eh) pos) tB'):QW X (.BoolOp .Or (a :: b :: eh) pos) (Lr tA tB'):=⟨Io ha.p hb.p⟩
theorem yV  (ha:QT X a tA):QW X (.BoolOp .Or [a] pos) tA:=⟨EZ ha.p⟩
theorem qE  {X:Cx} {e:Expr} {t:TT} (h:QW X e t):QT X e t:=⟨PW.pt h.p⟩
theorem EU  {i:Nat} {x:Str} {e:Expr} {te:TE} {pos':Pos} (hN:X.N.Nodup) (hi:X.N[i]?=some x) (hx:wX X.env.scope x) (he:QE X e te) (hs:swapsWith e (some (.Name x pos')) pos.line X.env=pure false:=by rfl) (hf:X.fn x=true∨X.env.scope.names.lookup x=some .local:=by first | exact .inl rfl | exact .inr rfl | assumption):QS X (.Assign [.Name x pos'] e pos) (qg te (ke i)):=⟨E5 hN hi hx he.p hs hf⟩
theorem yZ  {i j:Nat} {x y:Str} {a b:Expr} {ta:TA} {px py pt:Pos} {kt k2 pt2} (hc:X.calm=true) (hN:X.N.Nodup) (hi:X.N[i]?=some x) (hj:X.N[j]?=some y) (hij:i≠j) (hx:X.env.scope.names.lookup x=some .local) (hy:X.env.scope.names.lookup y=some .local) (ha:QA X [a,b] ta) (hw:swappedStores [.Tuple [.Name x px,.Name y py] kt pt] (.Tuple [a,b] k2 pt2) X.env=pure (some [x,y])) (hs:swapsWithSole [.Tuple [.Name x px,.Name y py] kt pt] (.Tuple [a,b] k2 pt2) pos.line X.env=pure false:=by rfl):QS X (.Assign [.Tuple [.Name x px,.Name y py] kt pt] (.Tuple [a,b] k2 pt2) pos) (Hq i j ta):=⟨E7 hc hN hi hj hij hx hy ha.p hw hs⟩
theorem o0  {tg e:Expr} {te:TE} {g:TG} (he:QE X e te) (hg:QG X tg g) (hs:swapsWithSole [tg] e pos.line X.env=pure false:=by rfl) (hw:swappedStores [tg] e X.env=pure none:=by rfl) (h1:(assignEach [tg] X.env).map (·.2)=[assign tg X.env]:=by rfl):QS X (.Assign [tg] e pos) (qg te g):=⟨Fb he.p hg.p hs hw h1⟩
theorem EW  {i:Nat} {x:Str} {e:Expr} {te:TE} {op:Operator} {ti:G5} {pos':Pos} (hN:X.N.Nodup) (hi:X.N[i]?=some x) (hx:wX X.env.scope x) (he:QE X e te) (ho:K4 X op ti) (hf:X.fn x=true∨X.env.scope.names.lookup x=some .local:=by first | exact .inl rfl | exact .inr rfl | assumption):QS X (.AugAssign (.Name x pos') op e pos) (Hw i te ti):=⟨Fa hN hi hx he.p ho hf⟩
theorem cM  {c:Expr} {a b:List Stmt} {tc:TT} (hc:QT X c tc) (ha:db X a t) (hb:db X b u):QS X (.If c a b pos) (Ht tc t u):=⟨Ip hc.p ha.p hb.p⟩
theorem jj  {c:Expr} {body:List Stmt} {tc:TT} {tb:TS} (hp:PassesOwn (model X.prog X.w) X.A X.env X.xe) (hc:QT X c tc) (hb:db X body tb):QS X (.While c body [] pos) (xj tc tb):=⟨zg hp hc.p hb.p⟩
theorem cG  {iter:Expr} {body:List Stmt} {wi:TI} {g:TG} {tb:TS} {pos:Pos} (hp:PassesOwn (model X.prog X.w) X.A X.env X.xe) (hc:X.calm=true) (hi:QI X tg iter wi) (hg:QG X tg g) (hb:db X body tb) (hs:∀ x,foldedSetIterable iter X.env x=pure x:=by intro _;rfl):QS X (.For tg iter body [] pos) (Hu wi g tb):=⟨E8 hp hc hi.p hg.p hb.p hs⟩
theorem aI  (he:QE X e te):QS X (.Return (some e) pos) (Ho te):=⟨E6 he.p⟩
theorem cD  (he:QE X e te) (hs:swapsWith e none pos.line X.env=pure false:=by rfl):QS X (.Expr e pos) (Dp te):=⟨BZ he.p hs⟩
theorem qF   : QS X (.Continue pos) Dq:=⟨qJ ⟩
theorem eY {st:Stmt}  : QS X st xm:=⟨zh ⟩
theorem bH   : db X [] Dn:=⟨BY ⟩
theorem ao {st:Stmt} (h1:QS X st t):db X [st] t:=⟨BX h1.p⟩
theorem yX {st:Stmt} {eh:List Stmt} (h1:QS X st t) (h2:db X eh u):db X (st :: eh) (D7 t u):=⟨zf h1.p h2.p⟩
theorem dg  {a:Expr} {ta:TA} {p pos:Pos} (hg:Gl X "range") (hm:X.mg "range" = none) (ha:QA X [a] ta) (hs:starEach [a] X.env=[(false,eval a X.env)]:=by rfl):QI X tg (.Call (.Name "range" p) [a] [] pos) (DJ ta):=⟨vR hg hm ha.p hs⟩
theorem dS {tg:Expr} {l:Expr} {tl:TE} (hl:QE X l tl):QI X tg l (Am X.K tl):=⟨B5 hl.p⟩
theorem eZ  {l:Expr} {tl:TE} (hl:QE X l tl):QI X tg l (IT X.K tl):=⟨Fd hl.p⟩
theorem aH  {i:Nat} {x:Str} (hN:X.N.Nodup) (hi:X.N[i]?=some x) (hx:wX X.env.scope x) (hf:X.fn x=true∨X.env.scope.names.lookup x=some .local:=by first | exact .inl rfl | exact .inr rfl | assumption):QG X (.Name x pos) (ke i):=⟨B9 hN hi hx hf⟩
theorem sj  {es:List Expr} {k:Nat} {t:wL} {n:Nat} (hc:X.calm=true) (h:Jn X es t) (hn:(assignEach es X.env).length=n:=by rfl) (hst:(assignEach es X.env).findIdx? (·.1)=none:=by rfl):QG X (.Tuple es k pos) (CM X.K n t):=⟨zu hc h.p hn hst⟩
theorem o4  {o i:Expr} {to ti:TE} {t:AT} (ho:QE X o to) (hi:QE X i ti) (hs:GH X t) (ha:∀ v,assign (.Subscript o i pos) X.env v=(do
   let ov ← holding [v] (eval o X.env)
   let iv ← holding [v,ov] (eval i X.env)
   standAt pos
   holding [v,ov,iv] (setItem ov iv v)
   release [v,ov,iv] []):=by intro _;rfl):QG X (.Subscript o i pos) (I0 to ti t):=⟨Ff ho.p hi.p hs ha⟩
theorem eP   : Jn X [] Ja:=⟨B7 ⟩
theorem bI  {e:Expr} {es:List Expr} {t:TG} {u:wL} (h1:QG X e t) (h2:Jn X es u) (hs:(assignEach (e :: es) X.env).map (·.2)=assign e X.env :: (assignEach es X.env).map (·.2):=by rfl):Jn X (e :: es) (DN t u):=⟨zr h1.p h2.p hs⟩
end
structure G7 (X:Cx) (ifs:List Expr) (t:TT):Prop where
 p:G8 X ifs t
section
set_option autoImplicit true
set_option relaxedAutoImplicit true
theorem dk  {X:Cx}:G7 X [] Hm:=⟨BV ⟩
theorem dQ  {X:Cx} {c:Expr} {t:TT} (h:QT X c t):G7 X [c] t:=⟨BU h.p⟩
theorem bZ  (hc:X.calm=true) (hi:QI X tg iter wi) (hg:∀ C fp pins s H,QG (CU X N' scope cl C fp pins s H) tg g) (ht:∀ C fp pins s H,G7 (CU X N' scope cl C fp pins s H) ifs tt) (he:∀ C fp pins s H,QE (CU X N' scope cl C fp pins s H) elt te) (hfree:cH X scope cl N' src) (hclos:closureFor scope X.env=pure cl) (hcell:∀ x∈scope.names,x.2≠.cell) (hkind:scope.kind=.function) (hnames:∀ x∈scope.names,x.2=.local->scope.names.lookup x.1=some .local) (hcl:jJ X scope cl) (hs:∀ x,foldedSetIterable iter X.env x=pure x:=by intro _;rfl):QE X (.ListComp elt [⟨tg,iter,ifs,0⟩] scope pos) (k8 wi src g tt te):=⟨vS hc hi.p (fun z0 z1 z2 z3 z4=>(hg z0 z1 z2 z3 z4).p) (fun z0 z1 z2 z3 z4=>(ht z0 z1 z2 z3 z4).p) (fun z0 z1 z2 z3 z4=>(he z0 z1 z2 z3 z4).p) hfree hclos (DP hcell hkind hcl) hnames hs⟩
theorem ig  {i:Nat} {x:Str} {pos' pos2:Pos} (hN:X.N.Nodup) (hi':X.N[i]?=some x) (hx:wX X.env.scope x) (hc:X.calm=true) (hi:QI X tg iter wi) (hg:∀ C fp pins s H,QG (CU X N' scope cl C fp pins s H) tg g) (ht:∀ C fp pins s H,G7 (CU X N' scope cl C fp pins s H) ifs tt) (he:∀ C fp pins s H,QE (CU X N' scope cl C fp pins s H) elt te) (hfree:cH X scope cl N' src) (hclos:closureFor scope X.env=pure cl) (hcell:∀ x∈scope.names,x.2≠.cell) (hkind:scope.kind=.function) (hnames:∀ x∈scope.names,x.2=.local->scope.names.lookup x.1=some .local) (hcl:jJ X scope cl) (hs:∀ x,foldedSetIterable iter X.env x=pure x:=by intro _;rfl) (hsw:swapsWith (.ListComp elt [⟨tg,iter,ifs,0⟩] scope pos) (some (.Name x pos')) pos2.line X.env=pure true:=by rfl) (hf:X.fn x=true∨X.env.scope.names.lookup x=some .local:=by first | exact .inl rfl | exact .inr rfl | assumption):QS X (.Assign [.Name x pos'] (.ListComp elt [⟨tg,iter,ifs,0⟩] scope pos) pos2) (qg (k8 wi src g tt te) (ke i)):=⟨uv hN hi' hx hc hi.p (fun z0 z1 z2 z3 z4=>(hg z0 z1 z2 z3 z4).p) (fun z0 z1 z2 z3 z4=>(ht z0 z1 z2 z3 z4).p) (fun z0 z1 z2 z3 z4=>(he z0 z1 z2 z3 z4).p) hfree hclos (DP hcell hkind hcl) hnames hs hsw hf⟩
end
section
variable {X:Cx} {K:PySem.W.Frag}
theorem B8 {es:List Expr} {k:Nat} {t:wL} {n:Nat} {pos:Pos} (hK:X.K=K) (hc:X.calm=true) (h:G9 X es t)
  (hn:(assignEach es X.env).length=n:=by rfl) (hst:(assignEach es X.env).findIdx? (·.1)=none:=by rfl):PG X (.Tuple es k pos) (CM K n t):=hK ▸ zu hc h hn hst
theorem bW (hK:X.K=K):uZ X (ES K):=hK ▸ aA
theorem cB (hK:X.K=K):uZ X (ET K):=hK ▸ b8
def M6 (K:PySem.W.Frag):List V->Hp->VK->Prop:=fun xs H Q=>GP K H xs fun n=>Q (.int n) H
end
theorem bv {a b:Expr} {op:Operator} {pos:Pos} {es:List Expr} {env:Env}:starEach (.BinOp a op b pos :: es) env=(false,eval (.BinOp a op b pos) env) :: starEach es env:=rfl
end B
namespace B
open PySem
section
variable {es:List Expr} {env:Env}
theorem dY {a b c}:starEach (.Tuple a b c :: es) env=(false,eval (.Tuple a b c) env) :: starEach es env:=rfl
theorem aD {a b c}:starEach (.Subscript a b c :: es) env=(false,eval (.Subscript a b c) env) :: starEach es env:=rfl
theorem aR {a b c d}:starEach (.Call a b c d :: es) env=(false,eval (.Call a b c d) env) :: starEach es env:=rfl
theorem af {a b}:starEach (.Name a b :: es) env=(false,eval (.Name a b) env) :: starEach es env:=rfl
theorem aT {a b c}:starEach (.Constant a b c :: es) env=(false,eval (.Constant a b c) env) :: starEach es env:=rfl
theorem uf {a b c}:starEach (.UnaryOp a b c :: es) env=(false,eval (.UnaryOp a b c) env) :: starEach es env:=rfl
theorem dZ {a b c}:starEach (.Attribute a b c :: es) env=(false,eval (.Attribute a b c) env) :: starEach es env:=rfl
theorem eO {a b c d}:starEach (.ListComp a b c d :: es) env=(false,eval (.ListComp a b c d) env) :: starEach es env:=rfl
theorem Bh {a b c d}:starEach (.IfExp a b c d :: es) env=(false,eval (.IfExp a b c d) env) :: starEach es env:=rfl
end
end B
namespace B
open PySem L2 PyProof.Rows
inductive cn {α:Type} (P:V->α->Prop):List V->List α->Prop where
 | nil:cn P [] []
 | cons {x:V} {d:α} {xs:List V} {ds:List α} (h:P x d) (t:cn P xs ds):cn P (x :: xs) (d :: ds)
theorem cn.len {α:Type} {P:V->α->Prop}:∀ {xs:List V} {ds:List α},cn P xs ds->xs.length=ds.length
 | _,_,.nil=>rfl
 | _,_,.cons _ t=>congrArg (·+1) t.len
theorem cn.mono {α:Type} {P P':V->α->Prop} (m:∀ v d,P v d->P' v d):∀ {xs:List V} {ds:List α},cn P xs ds->cn P' xs ds
 | _,_,.nil=>.nil
 | _,_,.cons h t=>.cons (m _ _ h) (t.mono m)
theorem cn.snoc {α:Type} {P:V->α->Prop} {x:V} {d:α} (k:P x d):∀ {xs:List V} {ds:List α},cn P xs ds->cn P (xs++[x]) (ds++[d])
 | _,_,.nil=>.cons k .nil
 | _,_,.cons h t=>.cons h (t.snoc k)
theorem cn.at {α:Type} {P:V->α->Prop}:∀ {xs:List V} {ds:List α},cn P xs ds->∀ {i:Nat} {x:V},xs[i]?=some x->∃ d,ds[i]?=some d/\P x d
 | _,_,.cons h _,0,x,e=>by
  rw [List.getElem?_cons_zero] at e
  cases e
  exact⟨_,rfl,h⟩
 | _,_,.cons _ t,i+1,x,e=>t.at (i:=i) (by rw [List.getElem?_cons_succ] at e;exact e)
 | _,_,.nil,_,_,e=>by cases e
theorem cn.deep {α:Type} {K:PySem.W.Frag} {H:Hp} {P:V->α->Prop} {f:α->PyData} (m:∀ v d,P v d->bw K H v (f d)):∀ {xs:List V} {ds:List α},cn P xs ds->bz K H xs (ds.map f)
 | _,_,.nil=>.nil
 | _,_,.cons h t=>.cons (m _ _ h) (t.deep m)
end B
namespace B
open PySem PySem.Spec L2 PyProof.Rows
section
set_option autoImplicit true
set_option relaxedAutoImplicit true
theorem EX  {X:Cx} {tg l:Expr} {tl:TE} (hl:QE X l tl):QI X tg l (IU X.K tl):=⟨Fe hl.p⟩
theorem ii {K:PySem.W.Frag} {es:List Expr} {k:Nat} {t:wL} {n:Nat} {pos:Pos} (hK:X.K=K) (hc:X.calm=true) (h:Jn X es t) (hn:(assignEach es X.env).length=n:=by rfl) (hst:(assignEach es X.env).findIdx? (·.1)=none:=by rfl):QG X (.Tuple es k pos) (CM K n t):=⟨B8 hK hc h.p hn hst⟩
end
def Ko (K:PySem.W.Frag):R2:=fun x y H Q=>∃ d d',bw K H x d/\bw K H y d'/\d.canLay0=true/\d'.canLay0=true/\d.depth≤32/\Q (.bl (PyData.eqv d d')) H
theorem sI {X:Cx} {k:Nat} (hr:cW k X.A):gF X (compareOp .Eq) (Ko X.K):=by
 intro pins s σ H x y v u Q I rx ry h
 obtain⟨d,d',hd,hd',c,c',dp,q⟩:=h
 obtain⟨as,ra⟩:=bw.reads I hd rx
 obtain⟨bs,rb⟩:=bw.reads I hd' ry
 exact SeqAt.compareEq_reads ra rb c c' (by have:=hr.units;omega) ⟨.bl _,H,I,rfl,q⟩
theorem pP {r q:R}:PyData.eqv (dR r) (dR q)=decide (r=q):=by
 by_cases h:r=q
 ·rw [decide_eq_true h,h];exact mz q
 ·rw [decide_eq_false h]
  cases c:PyData.eqv (dR r) (dR q) with
  | false=>rfl
  | true=>exact absurd (Gr c) h
def Ik (K:PySem.W.Frag):List V->Hp->VK->Prop:=fun xs H Q=>∃ a ys n b,xs=[.ref a,.ty n]/\bt K H a ys/\kd "tuple" n=some b/\Q (.bl b) H
theorem wF {X:Cx}:dD X (.builtin "isinstance") (Ik X.K):=by
 intro pins s σ H xs us Q I r h
 obtain⟨a,ys,n,b,rfl,hS,e,q⟩:=h
 obtain⟨u,u2,rfl,rx,ry⟩:=ua r
 obtain rfl:u2=Value.type n:=ry
 cases (show u=Value.ref a from rx)
 obtain⟨its,_,⟨o,h1,h2,_⟩,_⟩:=I.tuple hS
 exact PySem.W.kia_one PySem.W.kitx_tuple I.kIn ⟨o,h1,h2⟩ (sS e) (fun z=>nomatch z) fun tk=>⟨.bl b,H,I.tok tk,rfl,q⟩
section
set_option autoImplicit true
set_option relaxedAutoImplicit true
end
end B
namespace L2
open PySem PySem.Spec PyProof.Rows
section
variable {κ:Type} [DecidableEq κ]
def jL (kvs:List (κ×V)) (k:κ):Option V:=(kvs.find? fun kv=>decide (kv.1=k)).map (·.2)
def gf (kvs:List (κ×V)) (k:κ) (v:V):List (κ×V):=
 if (kvs.any fun kv=>decide (kv.1=k))=true then kvs.map (fun kv=>if kv.1=k then (kv.1,v) else kv) else kvs++[(k,v)]
def Ma (kvs:List (κ×V)) (k:κ):List (κ×V):=kvs.filter fun kv=>decide (kv.1≠k)
theorem jd {p:κ×V} {r:List (κ×V)} {k:κ} (e:p.1=k):jL (p :: r) k=some p.2:=by simp [jL,List.find?_cons,e]
theorem je {p:κ×V} {r:List (κ×V)} {k:κ} (e:¬ p.1=k):jL (p :: r) k=jL r k:=by simp [jL,List.find?_cons,e]
theorem p9 (k:κ):∀ kvs:List (κ×V),(kvs.any fun kv=>decide (kv.1=k))=(jL kvs k).isSome
 | []=>rfl
 | p :: r=>by
  rw [List.any_cons]
  by_cases e:p.1=k
  ·simp only [jd e,decide_eq_true e,Bool.true_or,Option.isSome_some]
  ·rw [je e,decide_eq_false e,Bool.false_or];exact p9 k r
theorem ka (kvs:List (κ×V)) (k:κ) (v:V):(gf kvs k v).length≤kvs.length+1:=by
 unfold gf
 split
 ·rw [List.length_map];omega
 ·rw [List.length_append,List.length_cons,List.length_nil];omega
theorem gX.isSome_eq {o:Option V} {u:Option Value} (r:gX o u):o.isSome=u.isSome:=by
 cases o with
 | none=>cases u with
  | none=>rfl
  | some _=>exact (show False from r).elim
 | some _=>cases u with
  | none=>exact (show False from r).elim
  | some _=>rfl
theorem gX.getD {o:Option V} {u:Option Value} {d:V} {d':Value} (r:gX o u) (rd:aZ d d'):aZ (o.getD d) (u.getD d'):=by
 cases o with
 | none=>cases u with
  | none=>exact rd
  | some _=>exact (show False from r).elim
 | some _=>cases u with
  | none=>exact (show False from r).elim
  | some _=>exact r
theorem KV.val {kvs:List (κ×V)} {vs:List (κ×Value)} (r:KV kvs vs) (k:κ):gX (jL kvs k) (valueAt vs k):=by
 unfold KV at r
 induction r with
 | nil=>exact True.intro
 | @cons p q ps qs h t ih=>
  obtain⟨h1,h2⟩:=h
  by_cases e:p.1=k
  ·have e':q.1=k:=h1.symm.trans e
   have b:valueAt (q :: qs) k=some q.2:=by simp [valueAt,List.find?_cons,e']
   rw [jd e,b];exact h2
  ·have e':¬ q.1=k:=fun z=>e (h1.trans z)
   have b:valueAt (q :: qs) k=valueAt qs k:=by simp [valueAt,List.find?_cons,e']
   rw [je e,b];exact ih
theorem KV.any {kvs:List (κ×V)} {vs:List (κ×Value)} (r:KV kvs vs) (k:κ):(kvs.any fun kv=>decide (kv.1=k))=vs.any fun kv=>decide (kv.1=k):=by
 unfold KV at r
 induction r with
 | nil=>rfl
 | cons h t ih=>rw [List.any_cons,List.any_cons,ih,h.1]
theorem KV.repl {kvs:List (κ×V)} {vs:List (κ×Value)} (r:KV kvs vs) (k:κ) {y:V} {u:Value} (ry:aZ y u) :
  KV (kvs.map fun kv=>if kv.1=k then (kv.1,y) else kv) (vs.map fun kv=>if kv.1=k then (kv.1,u) else kv):=by
 unfold KV at r ⊢
 induction r with
 | nil=>exact .nil
 | @cons p q ps qs h t ih=>
  rw [List.map_cons,List.map_cons]
  refine .cons ?_ ih
  obtain⟨h1,h2⟩:=h
  by_cases e:p.1=k
  ·rw [if_pos e,if_pos (h1.symm.trans e)];exact⟨h1,ry⟩
  ·rw [if_neg e,if_neg (fun z=>e (h1.trans z))];exact⟨h1,h2⟩
theorem KV.put {kvs:List (κ×V)} {vs:List (κ×Value)} (r:KV kvs vs) (k:κ) {y:V} {u:Value} (ry:aZ y u):KV (gf kvs k y) (stored vs k u):=by
 unfold gf stored
 rw [r.any k]
 by_cases e:(vs.any fun kv=>decide (kv.1=k))=true
 ·rw [if_pos e,if_pos e];exact r.repl k ry
 ·rw [if_neg e,if_neg e];exact Paired.snoc r ⟨rfl,ry⟩
theorem KV.length {kvs:List (κ×V)} {vs:List (κ×Value)} (r:KV kvs vs):kvs.length=vs.length:=Paired.length r
end
theorem Aj {P:Program} {w:World} {k:cP} {u:Value} (r:aZ (kV k) u):(bQ P w).is k u=true:=by
 cases k with
 | inl i=>obtain⟨t,e⟩:=(show ∃ t,u=Value.int i t from r);subst e;exact qN P w i t
 | inr x=>obtain⟨t,e⟩:=(show ∃ t,u=Value.str x t from r);subst e;exact qM P w x t
theorem nL {P:Program} {w:World}:∀ {ks:List cP} {us:List Value},aX (ks.map kV) us->ItemsAre (bQ P w) ks us
 | [],_,r=>by rw [List.map_nil] at r;cases r;exact .nil
 | k :: ks,_,r=>by
  rw [List.map_cons] at r
  cases r with
  | cons h t=>exact .cons (Aj h) (nL t)
abbrev KT (H:Hp):List (List cP×V)->List (List cP×Addr×Value)->Prop:=Paired fun p q=>p.1=q.1/\H q.2.1=some (.tup (p.1.map kV))/\aZ p.2 q.2.2
theorem KT.val {H:Hp} {kvs:List (List cP×V)} {xs:List (List cP×Addr×Value)} (r:KT H kvs xs) (k:List cP):gX (jL kvs k) ((atKey xs k).map (·.2)):=by
 induction r with
 | nil=>exact True.intro
 | @cons p q ps qs h t ih=>
  obtain⟨h1,_,h2⟩:=h
  by_cases e:p.1=k
  ·have e':q.1=k:=h1.symm.trans e
   have b:atKey (q :: qs) k=some q.2:=by simp [atKey,List.find?_cons,e']
   rw [jd e,b];exact h2
  ·have e':¬ q.1=k:=fun z=>e (h1.trans z)
   have b:atKey (q :: qs) k=atKey qs k:=by simp [atKey,List.find?_cons,e']
   rw [je e,b];exact ih
theorem KT.repl {H:Hp} {kvs:List (List cP×V)} {xs:List (List cP×Addr×Value)} (r:KT H kvs xs) (k:List cP) {y:V} {u:Value} (ry:aZ y u) :
  KT H (kvs.map fun kv=>if kv.1=k then (kv.1,y) else kv) (xs.map (putAt k u)):=by
 induction r with
 | nil=>exact .nil
 | @cons p q ps qs h t ih=>
  rw [List.map_cons,List.map_cons]
  refine .cons ?_ ih
  obtain⟨h1,h2,h3⟩:=h
  unfold putAt
  by_cases e:p.1=k
  ·rw [if_pos e,if_pos (h1.symm.trans e)];exact⟨h1,h2,ry⟩
  ·rw [if_neg e,if_neg (fun z=>e (h1.trans z))];exact⟨h1,h2,h3⟩
theorem KT.put {H:Hp} {kvs:List (List cP×V)} {xs:List (List cP×Addr×Value)} (r:KT H kvs xs) (k:List cP) {b:Addr} {y:V} {u:Value} (hb:H b=some (.tup (k.map kV))) (ry:aZ y u) :
  KT H (gf kvs k y) (storedH xs k b u):=by
 have e:(kvs.any fun kv=>decide (kv.1=k))=(atKey xs k).isSome:=by
  rw [p9,(r.val k).isSome_eq,Option.isSome_map]
 unfold gf storedH
 rw [e]
 by_cases q:(atKey xs k).isSome=true
 ·rw [if_pos q,if_pos q];exact r.repl k ry
 ·rw [if_neg q,if_neg q];exact Paired.snoc r ⟨rfl,hb,ry⟩
theorem KT.keeps {H H':Hp} {kvs:List (List cP×V)} {xs:List (List cP×Addr×Value)} (r:KT H kvs xs) (ht:∀ b ys,H b=some (.tup ys)->H' b=some (.tup ys)):KT H' kvs xs:=
 Paired.mapP r fun _ _ z=>⟨z.1,ht _ _ z.2.1,z.2.2⟩
section
variable {P:Program} {w:World} {H:Hp} {h:Heap} {a:Addr}
theorem Dz {u:HO} (ok:iR P w H h) (e:Rd H a u):bE P w H h a u:=e.ok ok
theorem AD {kvs:List (cP×V)} (ok:iR P w H h) (e:Rd H a (.dK kvs)):kvs.length≤sizeLine/\(a == sysModules)=false/\∃ vs,KV kvs vs/\h.DictOf (bQ P w) a vs:=
 show bE P w H h a (.dK kvs) from Dz ok e
theorem DR {kvs:List (cP×V)} (ok:iR P w H h) (e:H a=some (.dK kvs)):kvs.length≤sizeLine/\(a == sysModules)=false/\∃ vs,KV kvs vs/\h.DictOf (bQ P w) a vs:=AD ok (.inl e)
theorem sT {ks:List cP} (ok:iR P w H h) (e:H a=some (.tup (ks.map kV))):(tupleKind (bQ P w)).is h ks a:=by
 obtain⟨_,its,r,o,h1,h2,n,h3⟩:=(show bE P w H h a (.tup (ks.map kV)) from ok a _ e)
 exact⟨o,its.toArray,n,h1,h2,h3,by simpa using nL r⟩
theorem Az {kvs:List (List cP×V)} (ok:iR P w H h) (e:Rd H a (.dT kvs)):kvs.length≤sizeLine/\(a == sysModules)=false∧
  ∃ xs,KT H kvs xs/\h.DictOfH (tupleKind (bQ P w)) a xs:=by
 obtain⟨z,y,xs,r,o,es,ep,h1,h2,h3,h4,h5⟩:=(show bE P w H h a (.dT kvs) from Dz ok e)
 refine⟨z,y,xs,r,o,es,ep,h1,h2,h3,h4,fun x hx=>?_,h5⟩
 have all:∀ {l:List (List cP×V)} {m:List (List cP×Addr×Value)},KT H l m->∀ x∈m,(tupleKind (bQ P w)).is h x.1 x.2.1:=by
  intro l m q
  induction q with
  | nil=>intro x hx;exact nomatch hx
  | @cons p q ps qs hq t ih=>
   intro x hx
   rcases List.mem_cons.mp hx with e | hx
   ·subst e
    exact sT ok (by rw [← hq.1];exact hq.2.1)
   ·exact ih x hx
 exact all r x hx
theorem Jf {kvs:List (List cP×V)} (ok:iR P w H h) (e:H a=some (.dT kvs)):kvs.length≤sizeLine/\(a == sysModules)=false∧
  ∃ xs,KT H kvs xs/\h.DictOfH (tupleKind (bQ P w)) a xs:=Az ok (.inl e)
end
def mQ (H:Hp) (a:Addr) (y:V) (r:Option V):Prop:=
 (∃ kvs k,Rd H a (.dK kvs)/\y=kV k/\r=jL kvs k)∨∃ kvs k b,Rd H a (.dT kvs)/\y=.ref b/\H b=some (.tup (k.map kV))/\r=jL kvs k
def tR (H:Hp) (a:Addr) (y v:V) (H':Hp):Prop:=
 (∃ kvs k,H a=some (.dK kvs)/\y=kV k/\kvs.length < sizeLine/\H'=aG H a (.dK (gf kvs k v)))∨
 ∃ kvs k b,H a=some (.dT kvs)/\y=.ref b/\H b=some (.tup (k.map kV))/\kvs.length < sizeLine/\H'=aG H a (.dT (gf kvs k v))
theorem mQ.k {H:Hp} {a:Addr} {kvs:List (cP×V)} {k:cP} (e:H a=some (.dK kvs)):mQ H a (kV k) (jL kvs k):=.inl ⟨kvs,k,.inl e,rfl,rfl⟩
theorem tR.k {H:Hp} {a:Addr} {kvs:List (cP×V)} {k:cP} {v:V} (e:H a=some (.dK kvs)) (hl:kvs.length < sizeLine):tR H a (kV k) v (aG H a (.dK (gf kvs k v))):=.inl ⟨kvs,k,e,rfl,hl,rfl⟩
section
variable {X:Cx} {pins:List (Addr×Obj)} {σ:St} {H:Hp} {s:Shared} {a:Addr} {y v:V} {u r:Value} {o:Option V} {A:Around} {E:Value->Shared->Prop}
theorem Inv.big (I:Inv X pins σ H s):sysModules < s.heap.objs.size:=by
 have h:mainGlobals < s.heap.objs.size:=(I.mod.glob.keeps I.bk).lt
 exact Nat.lt_trans (by decide) h
theorem pT {h':Heap} {t':Nat} {ob:HO} (I:Inv X pins σ H s) (mu:Jp (H a)) (hs:Heap.SameBut a s.heap h') (he:∃ q,h'.get? a=some q) (new:bE X.prog X.w (aG H a ob) h' a ob) :
  Inv X pins σ (aG H a ob) { s with heap:=h',toks:=t' }:=
 I.write (x:=a) (e:=a) mu (.inl rfl) (fun b q hb z=>(hs.2 b hb).trans z) he new
theorem Gv {P:Program} {w:World} {H':Hp} {h':Heap} {kvs:List (cP×V)} {vs:List (cP×Value)} (z:kvs.length≤sizeLine) (hd:(a == sysModules)=false) (rel:KV kvs vs) (dd:h'.DictOf (bQ P w) a vs) :
  bE P w H' h' a (.dK kvs):=⟨z,hd,vs,rel,dd⟩
theorem ww {H':Hp} {Q:Unit->Shared->Prop} (hu:A.units+1 < cLine) (I:Inv X pins σ H s) (g:tR H a y v H') (ry:aZ y u) (rv:aZ v r) (h:∀ s',Inv X pins σ H' s'->Q () s') :
  wpAny (model X.prog X.w) A (setItem (.ref a) u r) Q E s:=by
 rcases g with ⟨kvs,k,e,ey,l,eH⟩ | ⟨kvs,k,b,e,ey,eb,l,eH⟩
 ·subst ey eH
  obtain⟨z,hd,vs,rel,dd⟩:=DR I.hok e
  have hz:vs.length≤sizeLine:=by rw [← rel.length];exact z
  have hl:(gf kvs k v).length≤sizeLine:=by have:=ka kvs k v;omega
  refine wpAny_setItem_pairs (hsz:=hz) (Aj ry) dd fun h' dd' hs=>h _ ?_
  have he:∃ q,h'.get? a=some q:=let ⟨q,_,_,hq,_⟩:=dd';⟨q,hq⟩
  exact pT I (by rw [e];exact True.intro) hs he (Gv hl hd (rel.put k rv) dd')
 ·subst ey eH
  cases (show u=Value.ref b from ry)
  obtain⟨z,hd,xs,rel,dd⟩:=Jf I.hok e
  have hz:xs.length≤sizeLine:=by rw [← Paired.length rel];exact z
  have hl:(gf kvs k v).length≤sizeLine:=by have:=ka kvs k v;omega
  refine wpAny_setItem_heap (hsz:=hz) (tupleKind_room_in1 hu) (sT I.hok eb) dd fun h' dd' hs=>h _ ?_
  obtain⟨q,es,ep,hq,h2,h3,h4,_,h5⟩:=dd'
  refine pT I (by rw [e];exact True.intro) hs ⟨q,hq⟩ ⟨hl,hd,_,(rel.put k eb rv).keeps fun c ys ec=>?_,q,es,ep,hq,h2,h3,h4,h5⟩
  rw [az (IJ ec e (fun z=>nomatch z))]
  exact ec
end
section
variable {X:Cx} {pins:List (Addr×Obj)} {σ:St} {H:Hp} {s:Shared} {a:Addr} {kvs:List (cP×V)} {k:cP} {u:Value} {A:Around} {E:Value->Shared->Prop}
end
def Ny (i:Expr):Prop:=∀ ov iv,subscripted i false ov iv=operate [ov,iv] (getItem ov iv)
def Lz (td ty:TE):TE:=fun σ H Q=>td σ H fun x H1=>ty σ H1 fun y H2=>∃ a v,x=.ref a/\mQ H2 a y (some v)/\Q v H2
def MO (ty td:TE):TE:=fun σ H Q=>ty σ H fun y H1=>td σ H1 fun x H2=>∃ a o,x=.ref a/\mQ H2 a y o/\Q (.bl o.isSome) H2
def JI (ty td:TE):TE:=fun σ H Q=>ty σ H fun y H1=>td σ H1 fun x H2=>∃ a o,x=.ref a/\mQ H2 a y o/\Q (.bl (!o.isSome)) H2
def Dy (td ty tv:TE):TS:=fun D σ H=>tv σ H fun v H1=>td σ H1 fun x H2=>ty σ H2 fun y H3=>∃ a H4,x=.ref a/\tR H3 a y v H4/\D.nx σ H4
def LJ (td ty tv:TE) (rd:V->V->Hp->VK->Prop):TS:=fun D σ H=>td σ H fun x H1=>ty σ H1 fun y H2=>∃ a v,x=.ref a/\mQ H2 a y (some v)∧
 tv σ H2 fun y2 H3=>rd v y2 H3 fun z H4=>∃ H5,tR H4 a y z H5/\D.nx σ H5
section
variable {X:Cx} {o i e value:Expr} {pos pos' tpos:Pos} {td ty tv:TE}
theorem B0 (hu:X.A.units+1 < cLine) (ho:PE X o td) (hi:PE X i ty) (hv:PE X value tv) (hs:swapsWith value (some (.Subscript o i pos')) pos.line X.env=pure false) :
  PS X (.Assign [.Subscript o i pos'] value pos) (Dy td ty tv):=by
 intro pins s σ H D I h
 refine wpAny_Assign_Subscript (bX (hv pins s σ H _ I h) fun r s1 ⟨v,H1,I1,rv,q1⟩=>bX (ho pins s1 σ H1 _ I1 q1) fun u s2 ⟨x,H2,I2,rx,q2⟩=>bX (hi pins s2 σ H2 _ I2 q2) fun iv s3 ⟨y,H3,I3,ry,a,H4,ex,g,q3⟩=>?_) hs
 subst ex
 obtain rfl:u=Value.ref a:=rx
 exact ww hu I3 g ry rv fun s4 I4=>⟨σ,H4,I4,q3⟩
end
theorem AE {P:Program} {w:World} {H:Hp} (h:Heap) (hb:sysModules < h.objs.size):bE P w H (h.push { cls:=.type "dict", data:=.dict #[] }) h.objs.size (.dK []):=
 ⟨Nat.zero_le _,beq_eq_false_iff_ne.mpr (Ne.symm (Nat.ne_of_lt hb)),[],.nil,Heap.DictOf.new h⟩
def xo:TE:=fun _ H Q=>∀ p,H p=none->Q (.ref p) (aG H p (.dK []))
section
variable {X:Cx} {pos:Pos}
theorem zG:PE X (.Dict [] [] pos) xo:=fun pins s σ H Q I h=>
 wpAny_Dict_empty ⟨.ref s.heap.objs.size,_,I.laid (a:=s.heap.objs.size) (o:=.dK []) (t':=s.toks) (fun _ _ q=>Heap.get?_push_of_some _ q) (Nat.le_refl _) (AE s.heap I.big),rfl,h _ (I.hok.fresh (Nat.le_refl _))⟩
end
def rL:List (TE×TE)->St->Hp->(List (V×V)->Hp->Prop)->Prop
 | [],_,H,Q=>Q [] H
 | (tk,tv) :: r,σ,H,Q=>tk σ H fun x H1=>tv σ H1 fun y H2=>rL r σ H2 fun ps H3=>Q ((x,y) :: ps) H3
abbrev VV:List (V×V)->List (Value×Value)->Prop:=Paired fun p q=>aZ p.1 q.1/\aZ p.2 q.2
def Oj (X:Cx) (pos:Pos) (keys:List (Option Expr)) (values:List Expr) (trs:List (TE×TE)):Prop:=
 ∀ (pins:List (Addr×Obj)) (s:Shared) (σ:St) (H:Hp) (Q:List (V×V)->Hp->Prop),Inv X pins σ H s->rL trs σ H Q→
  wpAny (model X.prog X.w) X.A (evalPairs (pairTrees keys values X.env pos)) (fun vs s'=>∃ ps H',Inv X pins σ H' s'/\VV ps vs/\Q ps H') X.xe s
def F8 (kvs more:List (cP×V)):List (cP×V):=more.foldl (fun acc kv=>gf acc kv.1 kv.2) kvs
def Lx (trs:List (TE×TE)):TE:=fun σ H Q=>∀ p,H p=none->rL trs σ (aG H p (.dK [])) fun ps H2=>H2 p=some (.dK [])/\∃ kvs:List (cP×V),ps=kvs.map (fun kv=>(kV kv.1,kv.2))/\kvs.length≤15/\Q (.ref p) (aG H2 p (.dK (F8 [] kvs)))
structure M1 (X:Cx) (o:Expr) (m:Str) (apos:Pos) (e:Expr) (cpos:Pos):Prop where
 base:attributeBase o m X.env (eval o X.env)=eval o X.env
 few:((backTo cpos (starEach [e] X.env)).all (fun x=>!x.1) && (backToKw cpos (keywordEach [] X.env)).all (fun x=>x.1.isSome)
  && decide (([e]:List Expr).length+([]:List Keyword).length+(if ([]:List Keyword).isEmpty then 0 else 1) < 30))=true
 line:(apos.endLine == cpos.line)=true
 trees:backTo cpos (starEach [e] X.env)=[(false,eval e X.env)]
structure M2 (X:Cx) (o:Expr) (m:Str) (apos:Pos) (e f:Expr) (cpos:Pos):Prop where
 base:attributeBase o m X.env (eval o X.env)=eval o X.env
 few:((backTo cpos (starEach [e,f] X.env)).all (fun x=>!x.1) && (backToKw cpos (keywordEach [] X.env)).all (fun x=>x.1.isSome)
  && decide (([e,f]:List Expr).length+([]:List Keyword).length+(if ([]:List Keyword).isEmpty then 0 else 1) < 30))=true
 line:(apos.endLine == cpos.line)=true
 trees:backTo cpos (starEach [e,f] X.env)=[(false,eval e X.env),(false,eval f X.env)]
def K8 (H:Hp) (a:Addr):Prop:=(∃ kvs,Rd H a (.dK kvs))∨∃ kvs,Rd H a (.dT kvs)
theorem Al {X:Cx} {pins:List (Addr×Obj)} {σ:St} {H:Hp} {s:Shared} {a:Addr} (I:Inv X pins σ H s) (d:K8 H a) :
  s.TypeIs (.ref a) "dict" /\ (∀ b,Value.ref a=.ref b->∃ ob,s.heap.get? b=some ob/\ob.dict=none)/\(a == sysModules)=false:=by
 rcases d with ⟨kvs,e⟩ | ⟨kvs,e⟩
 ·obtain⟨_,hd,vs,_,dd⟩:=AD I.hok e
  refine⟨dd.typeIs,fun b q=>?_,hd⟩
  cases q
  obtain⟨ob,_,_,h1,h2,_⟩:=dd
  exact⟨ob,h1,h2.2.1⟩
 ·obtain⟨_,hd,xs,_,dd⟩:=Az I.hok e
  refine⟨dd.typeIs,fun b q=>?_,hd⟩
  cases q
  obtain⟨ob,_,_,h1,h2,_⟩:=dd
  exact⟨ob,h1,h2.2.1⟩
section
variable {X:Cx} {pins:List (Addr×Obj)} {σ:St} {H:Hp} {s:Shared} {a:Addr} {y d:V} {u r:Value} {o:Option V} {A:Around} {E:Value->Shared->Prop}
theorem Gx {Q:Value->Shared->Prop} (hu:A.units+1 < cLine) (I:Inv X pins σ H s) (g:mQ H a y o) (ry:aZ y u) (rd:aZ d r) (h:∀ w' s',Inv X pins σ H s'->aZ (o.getD d) w'->Q w' s') :
  wpAny (model X.prog X.w) A (call (.builtin "dict.get") [.ref a,u,r]) Q E s:=by
 rcases g with ⟨kvs,k,e,ey,l⟩ | ⟨kvs,k,b,e,ey,eb,l⟩
 ·subst ey
  obtain⟨z,hd,vs,rel,dd⟩:=AD I.hok e
  refine call_meetsIn PySem.F.slot_dict_get dd.typeIs PySem.F.entry_dict_get (PySem.F.args_dict_get_3 _ _ _) (meets_dict_get_default (bQ X.prog X.w) a (Aj ry) hd r) ⟨_,dd.mapOf,h _ _ (I.tok _) ?_⟩
  rw [l]
  exact (rel.val k).getD rd
 ·subst ey
  cases (show u=Value.ref b from ry)
  obtain⟨z,hd,xs,rel,dd⟩:=Az I.hok e
  refine call_meetsIn PySem.F.slot_dict_get dd.typeIs PySem.F.entry_dict_get (PySem.F.args_dict_get_3 _ _ _) (meetsH_dict_get_default (tupleKind (bQ X.prog X.w)) a b hd r) ⟨tupleKind_room_in1 hu,k,xs,sT I.hok eb,dd,h _ _ (I.tok _) ?_⟩
  rw [l]
  exact (rel.val k).getD rd
end
def Kd (td ty:TE):TE:=fun σ H Q=>td σ H fun x H1=>∃ a,x=.ref a/\K8 H1 a/\ty σ H1 fun y H2=>∃ o,mQ H2 a y o/\Q (o.getD .non) H2
def xp (td ty tx:TE):TE:=fun σ H Q=>td σ H fun x H1=>∃ a,x=.ref a/\K8 H1 a/\ty σ H1 fun y H2=>tx σ H2 fun z H3=>∃ o,mQ H3 a y o/\Q (o.getD z) H3
section
variable {X:Cx} {o e f:Expr} {apos cpos:Pos} {td ty tx:TE}
theorem zH (hu:X.A.units+1 < cLine) (ho:PE X o td) (he:PE X e ty) (hf:PE X f tx) (m:M2 X o "get" apos e f cpos):PE X (.Call (.Attribute o "get" apos) [e,f] [] cpos) (xp td ty tx):=by
 intro pins s σ H Q I h
 refine wpAny_Call_method m.base m.few m.line PySem.F.plainAttrs_dict PySem.F.slot_dict_get PySem.F.type_dict_get (bX (ho pins s σ H _ I h) fun u s1 ⟨x,H1,I1,rx,a,ex,d,q1⟩=>?_)
 subst ex
 obtain rfl:u=Value.ref a:=rx
 obtain⟨t1,t2,_⟩:=Al I1 d
 refine⟨t1,t2,?_⟩
 rw [m.trees]
 refine Calls.callWith_builtin rfl (Calls.evalArgs_plain (Calls.spliced_cons (bX (he pins s1 σ H1 _ I1 q1) fun iv s2 ⟨y,H2,I2,ry,q2⟩=>
  Calls.spliced_cons (bX (hf pins s2 σ H2 _ I2 q2) fun fv s3 ⟨z,H3,I3,rz,ov,g,q3⟩=>Calls.spliced_nil ?_))))
 exact Gx hu I3 g ry rz fun w' s4 I4 rw'=>⟨_,H3,I4,rw',q3⟩
end
end L2
namespace B
open PySem PySem.Spec L2 PyProof.Rows
theorem wy {α β:Type} {K:PySem.W.Frag} {H:Hp} {D a:Addr} {xs:List V} {ds:List α} {P:Hp->V->β->Prop} {f:α->β} {src:List (Option Nat)} {σ:L2.St} {g:TG} {tt:TT} {te:TE} {Q:Hp->Prop}
  (mono:∀ H H' v d,aN K H H'->P H v d->P H' v d) (hD:H D=none) (hS:bt K H a xs) (hl:xs.length=ds.length) (hn:ds.length≤1000)
  (turn:∀ (i:Nat) (x:V) (d:α) (H':Hp),xs[i]?=some x->ds[i]?=some d->aB H H'->∀ (R:VK) (E:Hp->Prop),(∀ v H'',aB H' H''->P H'' v (f d)->R v H'')→
   g x (cZ src σ) H' fun σ2 H2=>iz (cZ src σ) σ2/\tt σ2 H2 fun ok H3=>if ok=true then te σ2 H3 R else E H3)
  (fin:∀ H' ys,aB H H'->H' D=some (.lst ys)->cn (P H') ys (ds.map f)->Q H') :
  ∃ W:Nat->Nat->List V->Hp->Prop,(∃ m,W 0 m [] (aG H D (.lst [])))/\∀ i m ys H,W i m ys H->((A8 K a).stop i H/\Q H)∨((A8 K a).go i H/\∀ x H',(A8 K a).yld i H x H'→
   g x (cZ src σ) H' fun σ2 H2=>iz (cZ src σ) σ2/\tt σ2 H2 fun ok H3=>
    if ok=true then te σ2 H3 fun y H4=>H4 D=some (.lst ys)/\ys.length < sizeLine/\∃ m',m' < m/\W (i+1) m' (ys++[y]) (aG H4 D (.lst (ys++[y]))) else ∃ m',m' < m/\W (i+1) m' ys H3):=by
 refine⟨fun i m ys H'=>i≤ds.length/\m=ds.length - i/\H' D=some (.lst ys)/\aB H H'/\cn (P H') ys ((ds.take i).map f),⟨_,Nat.zero_le _,rfl,ai,ap hD _,.nil⟩,?_⟩
 rintro i m ys H1 ⟨hi,rfl,d1,s1,al1⟩
 have hS1:bt K H1 a xs:=aN.same s1 _ _ hS
 by_cases hix:i < ds.length
 ·have hx0:xs[i]?=some (xs[i]'(by omega)):=List.getElem?_eq_getElem _
  refine .inr ⟨⟨xs,_,hS1,hx0⟩,?_⟩
  rintro x H2 ⟨rfl,hy⟩
  have hx:=hy xs hS1
  obtain⟨d,hd⟩:∃ d,ds[i]?=some d:=⟨_,List.getElem?_eq_getElem hix⟩
  refine turn i x d _ hx hd s1 _ _ fun v H3 s3 p3=>?_
  have d3:H3 D=some (.lst ys):=s3 _ _ d1
  have tm:aN K H2 (aG H3 D (.lst (ys++[v]))):=(aN.same s3).trans (aN.up d3 _)
  refine⟨d3,aY (by rw [al1.len,List.length_map,List.length_take];omega),ds.length - (i+1),by omega,hix,rfl,ai,fun b o q=>?_,?_⟩
  ·rw [az (aK q hD)]
   exact s3 _ _ (s1 _ _ q)
  ·rw [List.take_add_one,hd,List.map_append]
   exact (al1.mono fun v d p=>mono _ _ _ _ tm p).snoc (mono _ _ _ _ (aN.up d3 _) p3)
 ·have e:i=ds.length:=by omega
  subst e
  rw [List.take_length] at al1
  exact .inl ⟨⟨xs,hS1,by omega⟩,fin H1 ys s1 d1 al1⟩
def kY:PyData->String
 | .none => "NoneType"
 | .bool _ => "bool"
 | .int _ => "int"
 | .str _ => "str"
 | .list _ => "list"
 | .tuple _ => "tuple"
 | .dict _ => "dict"
def Il (K:PySem.W.Frag):List V->Hp->VK->Prop:=fun xs H Q=>∃ v d n b,xs=[v,.ty n]/\bw K H v d/\kd (kY d) n=some b/\Q (.bl b) H
theorem j3 {X:Cx}:dD X (.builtin "isinstance") (Il X.K):=by
 intro pins s σ H xs us Q I r h
 obtain⟨v,d,n,b,rfl,hD,e,q⟩:=h
 cases hD with
 | non=>exact jx pins s σ H _ us Q I r ⟨_,n,_,b,rfl,.non,e,q⟩
 | bl c=>exact jx pins s σ H _ us Q I r ⟨_,n,_,b,rfl,.bl c,e,q⟩
 | int i=>exact jx pins s σ H _ us Q I r ⟨_,n,_,b,rfl,.int i,e,q⟩
 | str x=>exact jx pins s σ H _ us Q I r ⟨_,n,_,b,rfl,.str x,e,q⟩
 | @tup a ys ds hS hA=>exact wF pins s σ H _ us Q I r ⟨a,ys,n,b,rfl,hS,e,q⟩
 | @lst a ys ds hS hA=>
  obtain⟨u,u2,rfl,rx,ry⟩:=ua r
  obtain rfl:u2=Value.type n:=ry
  cases (show u=Value.ref a from rx)
  obtain⟨its,_,⟨o,k,h1,h2,_⟩,_⟩:=I.list hS
  exact PySem.W.kia_one PySem.W.kitx_list I.kIn ⟨o,h1,h2⟩ (sS e) (fun z=>nomatch z) fun tk=>⟨.bl b,H,I.tok tk,rfl,q⟩
def f8:PyData->Bool
 | .int _=>true
 | _=>false
def oy (n:Nat):PyData->Bool
 | .tuple xs=>decide (xs.length=n)
 | _=>false
def jU:PyData->Bool
 | .tuple [.int a,.int b]=>decide (1≤b) && decide (Int.gcd a b=1)
 | _=>false
def LY:PyData->Bool
 | .tuple [x,y]=>jU x && jU y
 | _=>false
theorem CH {K:PySem.W.Frag} {H:Hp} {v:V} {d:PyData} (h:bw K H v d):∃ b c,kd (kY d) "int" = some b/\kd (kY d) "bool" = some c/\f8 d=(b && !c):=by
 cases h with
 | non=>exact⟨false,false,by simp only [kY];decide +kernel,by simp only [kY];decide +kernel,rfl⟩
 | bl b=>exact⟨true,true,by simp only [kY];decide +kernel,by simp only [kY];decide +kernel,rfl⟩
 | int i=>exact⟨true,false,by simp only [kY];decide +kernel,by simp only [kY];decide +kernel,rfl⟩
 | str x=>exact⟨false,false,by simp only [kY];decide +kernel,by simp only [kY];decide +kernel,rfl⟩
 | lst e t=>exact⟨false,false,by simp only [kY];decide +kernel,by simp only [kY];decide +kernel,rfl⟩
 | tup e t=>exact⟨false,false,by simp only [kY];decide +kernel,by simp only [kY];decide +kernel,rfl⟩
theorem CG {K:PySem.W.Frag} {H:Hp} {v:V} {d:PyData} (h:bw K H v d):(kd (kY d) "tuple" = some true/\∃ a xs ds,v=.ref a/\d=.tuple ds/\bt K H a xs/\bz K H xs ds)∨(kd (kY d) "tuple" = some false/\∀ ds,d≠.tuple ds):=by
 cases h with
 | non=>exact .inr ⟨by simp only [kY];decide +kernel,fun _ z=>nomatch z⟩
 | bl b=>exact .inr ⟨by simp only [kY];decide +kernel,fun _ z=>nomatch z⟩
 | int i=>exact .inr ⟨by simp only [kY];decide +kernel,fun _ z=>nomatch z⟩
 | str x=>exact .inr ⟨by simp only [kY];decide +kernel,fun _ z=>nomatch z⟩
 | lst e t=>exact .inr ⟨by simp only [kY];decide +kernel,fun _ z=>nomatch z⟩
 | tup e t=>exact .inl ⟨by simp only [kY];decide +kernel,_,_,_,rfl,rfl,e,t⟩
theorem Be {d:PyData} {n:Nat} (h:∀ ds,d≠.tuple ds):oy n d=false:=by
 cases d <;> first | rfl | exact absurd rfl (h _)
theorem bz.len {K:PySem.W.Frag} {H:Hp}:∀ {xs:List V} {ds:List PyData},bz K H xs ds->xs.length=ds.length
 | _,_,.nil=>rfl
 | _,_,.cons _ t=>congrArg Nat.succ t.len
theorem bw.two {K:PySem.W.Frag} {H:Hp} {v:V} {d:PyData} (h:bw K H v d) (c:oy 2 d=true):∃ a x y dx dy,v=.ref a/\d=.tuple [dx,dy]/\bt K H a [x,y]/\bw K H x dx/\bw K H y dy:=by
 cases h with
 | @tup a xs ds e t=>
  have l:ds.length=2:=of_decide_eq_true c
  cases t with
  | nil=>cases l
  | cons hx t=>cases t with
   | nil=>cases l
   | cons hy t=>cases t with
    | nil=>exact⟨a,_,_,_,_,rfl,rfl,e,hx,hy⟩
    | cons hz t=>simp at l
 | _=>cases c
theorem BN {d:PyData} (h:oy 2 d=false):jU d=false:=by
 cases c:jU d with
 | false=>rfl
 | true=>
  unfold jU at c
  split at c
  ·cases h
  ·cases c
structure Sh (k n:Nat) (d:PyData):Prop where
 sh:d.showable=true
 nd:d.hasDict=false
 dp:d.depth≤k
 sz:d.shown.length≤n
mutual
theorem bw.same {K:PySem.W.Frag} {H H':Hp} (s:aB H H'):∀ {v:V} {d:PyData},bw K H v d->bw K H' v d
 | _,_,.non=>.non
 | _,_,.bl b=>.bl b
 | _,_,.int i=>.int i
 | _,_,.str x=>.str x
 | _,_,.lst e t=>.lst (s.seq e) (bz.same s t)
 | _,_,.tup e t=>.tup (aN.same s _ _ e) (bz.same s t)
theorem bz.same {K:PySem.W.Frag} {H H':Hp} (s:aB H H'):∀ {vs:List V} {ds:List PyData},bz K H vs ds->bz K H' vs ds
 | _,_,.nil=>.nil
 | _,_,.cons h t=>.cons (bw.same s h) (bz.same s t)
end
end B
namespace B
open PySem PySem.Spec L2 PyProof.Rows
def LU (K:PySem.W.Frag):R2:=fun x y H Q=>∃ a b xs ys,x=.ref a/\y=.ref b/\bt K H a xs/\bt K H b ys/\xs.length+ys.length≤sizeLine/\∀ p H',aB H H'->bt K H' p (xs++ys)->Q (.ref p) H'
def Kj (K:PySem.W.Frag):V->Option Int->Option Int->Hp->VK->Prop:=fun x lo hi H Q=>∃ a xs,x=.ref a/\bt K H a xs/\∀ p H',aB H H'->bt K H' p (gT xs lo hi)->Q (.ref p) H'
theorem BE {X:Cx}:wT X (Kj X.K):=by
 intro pins s σ H x v vl vu lo hi sl Q I rx hs pl pu h
 obtain⟨a,xs,rfl,hx,q⟩:=h
 refine BF pins s σ H _ v vl vu lo hi sl Q I rx hs pl pu ?_
 by_cases c:HT.sIx xs.length 0 lo=0/\HT.sIx xs.length xs.length hi=xs.length
 ·refine .inl ⟨a,xs,rfl,hx,c.1,c.2,q a H (aB.refl H) ?_⟩
  have e:gT xs lo hi=xs:=by
   unfold gT
   rw [c.1,c.2,List.drop_zero,Nat.sub_zero,List.take_length]
  rw [e]
  exact hx
 ·exact .inr ⟨a,xs,rfl,hx,c,fun p hp=>q p _ (ap hp _) (bt.of ai)⟩
theorem rg {xs:List V} {n:Nat} (h:n≤xs.length):gT xs (some (n:Int)) none=xs.drop n:=by
 unfold gT
 rw [HT.sIx_nat,HT.sIx_none,Nat.min_eq_left h]
 exact List.take_of_length_le (by rw [List.length_drop];omega)
def Nq (K:PySem.W.Frag) (s:Addr):Prop:=∃ ns:List Int,ns.length≤63/\∀ H:Hp,aU K H s (ns.map V.int)
structure uX (K:PySem.W.Frag) (H:Hp) (t s:Addr):Prop where
 ex:∃ (ns:List Int) (p q:Int),H t=some (.lst [.ref s,.int p,.int q])/\((Rd H s (.lst (ns.map V.int))/\s≠t)∨∀ H',aU K H' s (ns.map V.int))/\ns.length≤63/\0≤p/\0≤q
def HH (K:PySem.W.Frag):Sp:=fun vs H Q _=>∃ (a:Addr) (ns:List Int),vs=[.ref a]/\aU K H a (ns.map V.int)/\ns.length≤63/\∀ (t:Addr) (H':Hp),aB H H'->H t=none->uX K H' t a->Q (.ref t) H'
def HK (K:PySem.W.Frag):Sp:=fun vs H Q _=>∃ (t s:Addr) (m:Int),vs=[.ref t,.int m]/\uX K H t s/\0 < m/\m < 1073741824/\∀ (r:Int) (xs:List V),0≤r->r < m->uX K (aG H t (.lst xs)) t s->Q (.int r) (aG H t (.lst xs))
section
set_option autoImplicit true
set_option relaxedAutoImplicit true
theorem kH  {X:Cx} {elts:List Expr} {x1} {tp p pos:Pos} {a:Expr} {ta:TA} (hg:Gl X "enumerate") (hm:X.mg "enumerate" = none) (ha:QA X [a] ta) (hs:starEach [a] X.env=[(false,eval a X.env)]:=by rfl):QI X (.Tuple elts x1 tp) (.Call (.Name "enumerate" p) [a] [] pos) (IV X.K ta):=⟨B6 hg hm ha.p hs⟩
theorem lR  {X:Cx} {elts:List Expr} {x1} {tp p pos:Pos} {a:Expr} {ta:TA} (hg:Gl X "enumerate") (hm:X.mg "enumerate" = none) (ha:QA X [a] ta) (hs:starEach [a] X.env=[(false,eval a X.env)]:=by rfl):QI X (.Tuple elts x1 tp) (.Call (.Name "enumerate" p) [a] [] pos) (IW X.K ta):=⟨zq hg hm ha.p hs⟩
end
theorem kK:∀ {ns:List Int} {us:List Value},aX (ns.map V.int) us->IntsAre us ns
 | [],_,.nil=>.nil
 | n :: ns,_,.cons r t=>by
  obtain⟨tk,rfl⟩:=(show ∃ t,_=Value.int n t from r)
  exact .cons _ _ (kK t)
theorem wC {X:Cx} (hc:X.calm=true):dD X (.builtin "sum") (fun xs H Q=>∃ (p:Addr) (ns:List Int),xs=[.ref p]/\aU X.K H p (ns.map V.int)/\Q (.int ns.sum) H):=by
 intro pins s σ H xs us Q I r h
 obtain⟨p,ns,rfl,hq,q⟩:=h
 obtain⟨u,rfl,rx⟩:=gH r
 cases rx
 obtain⟨its,rv,pl,hz⟩:=I.list hq
 have hi:=kK rv
 obtain⟨zs,ez⟩:=hi.allInts.items
 have hl:=pl.isList
 rw [ez] at hl
 have en:numsOf its=ns:=hi.numsOf
 rw [show its=its.toArray.toList from rfl,ez,nums_intItems] at en
 refine sum_intListG (I.ok.hd hc) hl fun h' tk t' hk=>?_
 rw [preSum_eq,List.take_of_length_le (by simp),en]
 exact⟨.int ns.sum,H,I.kept (t':=tk) hk,⟨_,rfl⟩,q⟩
section
variable {prog:Program} {w:World} {A:Around} {E:Value->Shared->Prop} {s:Shared}
theorem m4 {Q:List Value->Shared->Prop} {r:Addr} {a b c:Int} {t u v:Tok} {n:Nat} (hh:A.handled=none) (hr:IsRange s.heap r a b c t u v) (hsmall:Builtin.Range.small a b c=true)
  (hn:Builtin.Range.rangeSize a b c=n) (hlen:n≤2 ^ 24)
  (hQ:∀ h' tk acc,(∀ b o,s.heap.get? b=some o->h'.get? b=some o)->ItemsOf (fun i v=>∃ t,v=.int (a+i * c) t) acc n->Q acc.toList { s with heap:=h',toks:=tk }) :
  wpAny (model prog w) A (collect (.ref r)) Q E s:=by
 unfold collect
 refine wpAny_bind (wpAny_runValue (codeAny_builtin F.entry_proto_collect ?_))
 rw [Around.under_plainId F.plain_proto_collect _]
 show wpAny _ A.in1 (newList [] >>= fun l=>again (.builtin "list.__iadd__" ⟨[l,.ref r],[]⟩)) _ _ s
 refine wpAny_bind (wpAny_newObj_type ?_)
 refine wpAny_pure ⟨plainId_quiet F.plain_list_iadd _,codeAny_builtin F.entry_list_iadd ?_⟩
 rw [Around.under_plainId F.plain_list_iadd _]
 show wpAny _ A.in1 (Builtin.List.listExtendWith (.ref s.heap.objs.size) (.ref r) (.ref s.heap.objs.size)) _ _ { s with heap:=s.heap.push { cls:=.type "list", data:=.seq ([]:List Value).toArray } }
 refine wpAny_extend_range (R:=wants (fun v s'=>wpAny (model prog w) A (match v with | .ref a=>(do match (← load a).data with | .seq xs _=>pure xs.toList | _=>unsupported "internal:collect") | _=>unsupported "internal:collect") Q E s') E) (s:={ s with heap:=s.heap.push { cls:=.type "list", data:=.seq ([]:List Value).toArray } }) hh (Heap.get?_push_of_some _ hr) hsmall hn hlen s.heap.objs.size _ _ (Heap.get?_push_size _ rfl) fun h' tk acc' c' hk hS hI=>?_
 show wpAny _ A (load s.heap.objs.size >>= _) _ _ _
 refine wpAny_bind (wpAny_load hS ?_)
 exact wpAny_pure (hQ h' tk acc' (fun b o e=>hk b o (Nat.ne_of_lt (Heap.lt_size e)) (Heap.get?_push_of_some _ e)) hI)
theorem jq {r:Addr} {a b c:Int} {t u v:Tok} {n:Nat} (hsmall:Builtin.Range.small a b c=true) (hn:Builtin.Range.rangeSize a b c=n) (hlen:n≤2 ^ 24) :
  Meets (Builtin.«tuple.__new__» ⟨[.type "tuple", .ref r],[]⟩)
   (fun A R s=>A.handled=none/\IsRange s.heap r a b c t u v/\∀ (h':Heap) (tk:Nat) (acc:Array Value),(∀ b o,s.heap.get? b=some o->h'.get? b=some o)->ItemsOf (fun i v=>∃ t,v=.int (a+i * c) t) acc n→
    R (.ok (.ret (.ref h'.objs.size))) { s with heap:=h'.push { cls:=.type "tuple", data:=.seq acc },toks:=tk }):=
 .of_wp fun prog w A R s h=>by
  obtain⟨hh,hr,h⟩:=h
  have hsub:=sub_tuple_self
  have hinit:=init_tuple_lookup
  have hmh:=madeHere_tuple
  have hT:s.TypeIs (.ref r) "range" := ⟨_,hr,rfl⟩
  have hh1:A.in1.handled=none:=hh
  wp_walk using wpAny_typeOf hT,m4 hh1 hr hsmall hn hlen
  intro h' tk acc hk hacc
  show wpAny _ _ (Builtin.Tuple.tupleExact acc.toList.toArray >>= fun v=>ret v) _ _ _
  unfold Builtin.Tuple.tupleExact
  refine wpAny_bind (wpAny_newObj_type ?_ (show acc.toList.toArray.size≤sizeLine by simp only [Array.toArray_toList];rw [hacc.1,sizeLine_eq];exact hlen))
  refine wpAny_pure ⟨_,rfl,?_⟩
  have e:acc.toList.toArray=acc:=by simp
  rw [e]
  exact h h' tk acc hk hacc
theorem j0 {Q:Value->Shared->Prop} {r:Addr} {a b c:Int} {t u v:Tok} {n:Nat} (hh:A.handled=none) (hr:IsRange s.heap r a b c t u v) (hsmall:Builtin.Range.small a b c=true)
  (hn:Builtin.Range.rangeSize a b c=n) (hlen:n≤2 ^ 24)
  (hQ:∀ (h':Heap) (tk:Nat) (acc:Array Value),(∀ b o,s.heap.get? b=some o->h'.get? b=some o)->ItemsOf (fun i v=>∃ t,v=.int (a+i * c) t) acc n->Q (.ref h'.objs.size) { s with heap:=h'.push { cls:=.type "tuple", data:=.seq acc },toks:=tk }) :
  wpAny (model prog w) A (call (.type "tuple") [.ref r]) Q E s:=by
 refine callType_new F.called_tuple (by decide) (F.typeCall_tuple_1 _) (F.newCall_tuple_1 _) (fun obj=>F.args_object_init_2 obj _) F.entry_tuple_new
  (jq hsmall hn hlen) ⟨hh,hr,fun h' tk acc hk hacc=>⟨⟨_,Heap.get?_push_size _ rfl,rfl⟩,hQ h' tk acc hk hacc⟩⟩
end
def upTo (n:Nat):List Int:=(List.range n).map fun i:Nat=>(i:Int)
theorem kP {acc:Array Value} {n:Nat} (h:ItemsOf (fun i v=>∃ t,v=.int ((0:Int)+i * 1) t) acc n):aX ((upTo n).map V.int) acc.toList:=by
 obtain⟨hl,ha⟩:=h
 have key:∀ m,m≤n->aX ((upTo m).map V.int) (acc.toList.take m):=by
  intro m
  induction m with
  | zero=>intro _;rw [List.take_zero];exact .nil
  | succ m ih=>
   intro hm
   have hlt:m < acc.size:=by omega
   have e1:acc.toList.take (m+1)=acc.toList.take m++[acc[m]]:=by
    rw [List.take_add_one];simp [hlt]
   have e2:(upTo (m+1)).map V.int=(upTo m).map V.int++[V.int m]:=by
    unfold upTo;rw [List.range_succ];simp
   rw [e1,e2]
   refine (ih (by omega)).append (.cons ?_ .nil)
   obtain⟨t,e⟩:=ha m acc[m] (by simp [hlt])
   exact⟨t,by rw [e];simp⟩
 have:=key n (Nat.le_refl _)
 rwa [List.take_of_length_le (by simp [hl])] at this
def Dk (ta:TA):TE:=fun σ H Q=>ta σ H fun vs H1=>∃ j:Int,vs=[.int j]/\∀ p,H1 p=none->Q (.ref p) (aG H1 p (.rng 0 j))
theorem Ca {X:Cx} {a:Expr} {ta:TA} {p pos:Pos} (hg:Gl X "range") (hm:X.mg "range" = none) (ha:PA X [a] ta) (hs:starEach [a] X.env=[(false,eval a X.env)]:=by rfl) :
  PE X (.Call (.Name "range" p) [a] [] pos) (Dk ta):=by
 intro pins s σ H Q I h
 refine Call_ (gQ I hg hm boot_range (PyProof.Rows.callWith_type1 (bX (ha pos pins s σ H _ I h) fun us s1 ⟨vs,H1,I1,r1,q1⟩=>?_) hs rfl))
 obtain⟨j,e,q⟩:=q1
 subst e
 obtain⟨u,rfl,t,rfl⟩:=gH r1
 refine call_range_1 ?_
 exact⟨.ref s1.heap.objs.size,_,I1.laid (o:=.rng 0 j) (fun b o e=>Heap.get?_push_of_some _ e) (Nat.le_refl _) ⟨_,t,_,Heap.get?_push_size _ rfl⟩,rfl,q _ (I1.hok.fresh (Nat.le_refl _))⟩
theorem ui (n:Nat):Builtin.Range.rangeSize 0 n 1=n:=by rw [rangeSize_one];split <;> omega
theorem rn {X:Cx} (hc:X.calm=true):dD X (.type "tuple") (fun xs H Q=>∃ p,∃ n:Nat,xs=[.ref p]/\H p=some (.rng 0 n)/\n≤1000/\∀ l,H l=none->Q (.ref l) (aG H l (.tup ((upTo n).map V.int)))):=by
 intro pins s σ H xs us Q I r h
 obtain⟨p,n,rfl,hp,hn,q⟩:=h
 obtain⟨u,rfl,rx⟩:=gH r
 cases rx
 obtain⟨t,u,w,e⟩:=(show bE X.prog X.w H s.heap p (.rng 0 n) from I.hok p _ hp)
 refine j0 (I.ok.hd hc) (show IsRange s.heap p 0 n 1 t u w from e) (small_one (by omega) (by omega) (by omega) (by omega)) (ui n) (by omega) fun h' tk acc hk hi=>?_
 have rv:=kP hi
 have I1:Inv X pins σ H { s with heap:=h',toks:=tk }:=I.kept (t':=tk) hk
 have hl:(upTo n).length=n:=by unfold upTo;simp
 have I2:Inv X pins σ (aG H h'.objs.size (.tup ((upTo n).map V.int))) { s with heap:=h'.push { cls:=.type "tuple", data:=.seq acc },toks:=tk }:=
  I1.laid (t':=tk) (fun b o e=>Heap.get?_push_of_some _ e) (Nat.le_refl _) (show bE X.prog X.w _ _ _ (.tup ((upTo n).map V.int)) from ⟨by rw [List.length_map,hl,sizeLine_eq];omega,acc.toList,rv,by have:=IsTup.new h' acc;simpa using this⟩)
 exact⟨.ref h'.objs.size,_,I2,rfl,q _ (I1.hok.fresh (Nat.le_refl _))⟩
def Jv (hi:Int) (n:Nat):It:=⟨fun i _=>i < n,fun i H x H'=>H'=H/\x=.int (hi - i),fun i _=>n≤i⟩
theorem vt {P:Program} {w:World} {K:PySem.W.Frag} {tg:Expr} (it:Addr) (lo:Int) (n:Nat):tH P w K tg (Jv lo n) [it] it (fun i h=>IsRangeIter h it (lo+(i:Nat) * (-1)) ((n:Int) - (i:Nat)) (-1)) where
 mem:=by simp
 obj:=fun i h st b hb=>by
  have e:b=it:=by simpa using hb
  subst e
  exact⟨_,st,fun v z=>by
   have z':Data.fields _=Data.cell v:=z
   cases z'⟩
 keep:=fun i h h' st k=>k it (by simp) _ st
 item:=by
  intro X hP hw hK hc i pins s σ H E I hf st hg
  subst hP hw hK
  obtain⟨f0,f1,f2,f3,f4,f5⟩:=hf it (by simp)
  have W:=Walks.range (prog:=X.prog) (w:=X.w) (I.ok.hd hc) it lo (-1) n
  refine W.item i s _ _ hg st fun v h' tk hv st' kk=>?_
  obtain⟨t,rfl⟩:=hv
  have I1:Inv X pins σ H { s with heap:=h',toks:=tk }:=I.turned (fun b o hb e=>kk b o (by simpa using hb) e) f0 f1 f3 f4 f5
  refine⟨_,rfl,uH (s:={ s with heap:=h',toks:=tk }) (n := "range_iterator") st' rfl rfl (by decide) ⟨.int (lo - i),H,I1,⟨t,?_⟩,⟨rfl,rfl⟩,st',fun b hb=>(hf b hb).1⟩⟩
  rw [show lo+(i:Int) * (-1)=lo - i by omega]
 done:=by
  intro X hP hw hK hc i pins s σ H E I hf st hg
  subst hP hw hK
  obtain⟨f0,f1,f2,f3,f4,f5⟩:=hf it (by simp)
  exact wpAny_pyNext_range_end (I.ok.hd hc) st (by have:n≤i:=hg;omega) fun h' eb=>⟨rfl,I.turned (t':=s.toks) (fun b o hb e=>eb b o hb e) f0 f1 f3 f4 f5⟩
 self:=fun _ _ _ _ _ st h=>wpAny_pyIter_rangeiter st h
theorem nw (a b:Int):Builtin.Range.rangeSize a b (-1)=((a - b).toNat:Nat):=by
 unfold Builtin.Range.rangeSize
 rw [if_neg (by decide)]
 split
 ·rw [show (-(-1):Int)=1 by decide,Int.ediv_one];omega
 ·omega
theorem rQ {a b:Int} (ha:-1000≤a) (ha':a≤1000) (hb:-1000≤b) (hb':b≤1000):Builtin.Range.small a b (-1)=true:=by
 unfold Builtin.Range.small
 rw [nw]
 simp only [Builtin.Range.rangeFitsLong,Bool.and_eq_true,Bool.or_eq_true,decide_eq_true_eq,beq_iff_eq,show ¬ (-1:Int) > 0 by decide,if_false]
 omega
def DI (ta:TA):TI:=fun σ H R=>ta σ H fun vs H1=>∃ i j:Int,vs=[.int i,.int j,.int (-1)]/\(-1000≤i/\i≤1000/\-1000≤j/\j≤1000)/\R (Jv i (i - j).toNat) H1
theorem vQ {X:Cx} {tg:Expr} {a b c:Expr} {ta:TA} {p pos:Pos} (hg:Gl X "range") (hm:X.mg "range" = none) (ha:PA X [a,b,c] ta) (hs:starEach [a,b,c] X.env=[(false,eval a X.env),(false,eval b X.env),(false,eval c X.env)]:=by rfl) (hs2:starEach [b,c] X.env=[(false,eval b X.env),(false,eval c X.env)]:=by rfl) :
  PI X tg (.Call (.Name "range" p) [a,b,c] [] pos) (DI ta):=by
 intro pins s σ H R I h
 refine Call_ (gQ I hg hm boot_range (PyProof.Rows.callWith_type1 (bX (ha pos pins s σ H _ I h) fun us s1 ⟨vs,H1,I1,r1,q1⟩=>?_) (by rw [hs,hs2]) (by rw [hs2];rfl)))
 obtain⟨i,j,e,⟨q1,q2,q3,q4⟩,q⟩:=q1
 subst e
 cases r1 with
 | cons r rr=>
  cases rr with
  | cons r' rr=>
   cases rr with
   | cons r'' rr=>
    cases rr
    obtain⟨t,rfl⟩:=r
    obtain⟨t',rfl⟩:=r'
    obtain⟨t'',rfl⟩:=r''
    refine call_range_3 (by decide) ?_ (.inl (PyProof.noPylong_small (by decide)))
    refine wpAny_pyIter_range (IsRange.new ..) (rQ q1 q2 q3 q4) ?_
    have I2:Inv X pins σ H1 { s1 with heap:=s1.heap.push { cls:=.type "range", data:=.fields #[.int i t,.int j t',.int (-1) t''] },toks:=s1.toks }:=I1.kept fun b o e=>Heap.get?_push_of_some _ e
    refine⟨(s1.heap.push { cls:=.type "range", data:=.fields #[.int i t,.int j t',.int (-1) t''] }).objs.size,[(s1.heap.push { cls:=.type "range", data:=.fields #[.int i t,.int j t',.int (-1) t''] }).objs.size],_,_,H1,rfl,
     I2.kept (t':=s1.toks) fun b o e=>Heap.get?_push_of_some _ e,vt _ i (i - j).toNat,?_,fun b hb=>?_,q⟩
    ·have e1:i+((0:Nat):Int) * (-1)=i:=by simp
     have e2:(((i - j).toNat:Nat):Int) - ((0:Nat):Int)=Builtin.Range.rangeSize i j (-1):=by rw [nw];omega
     show IsRangeIter _ _ (i+((0:Nat):Int) * (-1)) ((((i - j).toNat:Nat):Int) - ((0:Nat):Int)) (-1)
     rw [e1,e2]
     exact Heap.get?_push_size _ rfl
    ·have e:b=(s1.heap.push { cls:=.type "range", data:=.fields #[.int i t,.int j t',.int (-1) t''] }).objs.size:=by simpa using hb
     subst e
     exact I2.fpOk (Nat.le_refl _) (I2.hok.fresh (Nat.le_refl _))
theorem Au {hi:Int} {n:Nat} {g:TG} {tb:TS} {D:jI} {σ:L2.St} {H:Hp} (Pv:Nat->L2.St->Hp->Prop) (h0:Pv 0 σ H)
  (hs:∀ i σ H,i < n->Pv i σ H->g (.int (hi - i)) σ H fun σ2 H2=>tb { D with nx:=Pv (i+1),ct:=Pv (i+1),bk:=D.nx } σ2 H2) (hd:∀ σ H,Pv n σ H->D.nx σ H) :
  ∃ W:Nat->Nat->L2.St->Hp->Prop,(∃ m,W 0 m σ H)/\∀ i m σ H,W i m σ H→
   ((Jv hi n).stop i H/\D.nx σ H)∨((Jv hi n).go i H/\∃ N:L2.St->Hp->Prop,(∀ σ' H',N σ' H'->∃ m',m' < m/\W (i+1) m' σ' H')/\∀ x H',(Jv hi n).yld i H x H'->g x σ H' fun σ2 H2=>tb { D with nx:=N,ct:=N,bk:=D.nx } σ2 H2):=by
 refine⟨fun i m σ H=>m=n - i/\i≤n/\Pv i σ H,⟨_,rfl,Nat.zero_le _,h0⟩,?_⟩
 rintro i m σ H ⟨rfl,hi',p⟩
 by_cases hlt:i < n
 ·refine .inr ⟨hlt,Pv (i+1),fun σ' H' p'=>⟨n - (i+1),by omega,rfl,hlt,p'⟩,fun x H' y=>?_⟩
  obtain⟨rfl,rfl⟩:=y
  exact hs i σ _ hlt p
 ·have e:i=n:=by omega
  subst e
  exact .inl ⟨Nat.le_refl _,hd σ H p⟩
section
set_option autoImplicit true
set_option relaxedAutoImplicit true
theorem ut  {X:Cx} {a:Expr} {ta:TA} {p pos:Pos} (hg:Gl X "range") (hm:X.mg "range" = none) (ha:QA X [a] ta) (hs:starEach [a] X.env=[(false,eval a X.env)]:=by rfl):QE X (.Call (.Name "range" p) [a] [] pos) (Dk ta):=⟨Ca hg hm ha.p hs⟩
theorem vK  {X:Cx} {tg:Expr} {a b c:Expr} {ta:TA} {p pos:Pos} (hg:Gl X "range") (hm:X.mg "range" = none) (ha:QA X [a,b,c] ta) (hs:starEach [a,b,c] X.env=[(false,eval a X.env),(false,eval b X.env),(false,eval c X.env)]:=by rfl) (hs2:starEach [b,c] X.env=[(false,eval b X.env),(false,eval c X.env)]:=by rfl):QI X tg (.Call (.Name "range" p) [a,b,c] [] pos) (DI ta):=⟨vQ hg hm ha.p hs hs2⟩
end
structure DT (J:It) (H:Hp) (n:Nat) (P:Nat->V->Hp->Prop):Prop where
 go:∀ i H',i < n->aB H H'->J.go i H'
 stop:∀ H',aB H H'->J.stop n H'
 yld:∀ i H' x H'',i < n->aB H H'->J.yld i H' x H''->aB H' H''/\P i x H''
theorem f7 {K:PySem.W.Frag} {H:Hp} {a:Addr} {xs:List V} (h:aU K H a xs):DT (GL K a) H xs.length (fun i x _=>xs[i]?=some x) where
 go:=fun i H' hi s=>⟨xs,_,s.seq h,List.getElem?_eq_getElem hi⟩
 stop:=fun H' s=>⟨xs,s.seq h,Nat.le_refl _⟩
 yld:=fun i H' x H'' hi s y=>by obtain⟨rfl,hy⟩:=y;exact⟨aB.refl _,hy xs (s.seq h)⟩
theorem ja {K:PySem.W.Frag} {H:Hp} {a:Addr} {xs:List V} (h:bt K H a xs):DT (A8 K a) H xs.length (fun i x _=>xs[i]?=some x) where
 go:=fun i H' hi s=>⟨xs,_,aN.same s _ _ h,List.getElem?_eq_getElem hi⟩
 stop:=fun H' s=>⟨xs,aN.same s _ _ h,Nat.le_refl _⟩
 yld:=fun i H' x H'' hi s y=>by obtain⟨rfl,hy⟩:=y;exact⟨aB.refl _,hy xs (aN.same s _ _ h)⟩
theorem tX {H:Hp} {lo:Int} {n:Nat}:DT (Dg lo n) H n (fun i x _=>x=.int (lo+i)) where
 go:=fun i H' hi s=>hi
 stop:=fun H' s=>Nat.le_refl _
 yld:=fun i H' x H'' hi s y=>by obtain⟨rfl,rfl⟩:=y;exact⟨aB.refl _,rfl⟩
theorem oq {K:PySem.W.Frag} {H:Hp} {a:Addr} {xs:List V} (h:bt K H a xs):DT (Jt K a) H xs.length (fun i v H'=>∃ p x,v=.ref p/\xs[i]?=some x/\H' p=some (.tup [.int i,x])) where
 go:=fun i H' hi s=>⟨xs,_,aN.same s _ _ h,List.getElem?_eq_getElem hi⟩
 stop:=fun H' s=>⟨xs,aN.same s _ _ h,Nat.le_refl _⟩
 yld:=fun i H' x H'' hi s y=>by obtain⟨p,v,hp,rfl,rfl,hy⟩:=y;exact⟨ap hp _,p,v,rfl,hy xs (aN.same s _ _ h),ai⟩
theorem tY {K:PySem.W.Frag} {H:Hp} {a:Addr} {xs:List V} (h:aU K H a xs):DT (Ju K a) H xs.length (fun i v H'=>∃ p x,v=.ref p/\xs[i]?=some x/\H' p=some (.tup [.int i,x])) where
 go:=fun i H' hi s=>⟨xs,_,s.seq h,List.getElem?_eq_getElem hi⟩
 stop:=fun H' s=>⟨xs,s.seq h,Nat.le_refl _⟩
 yld:=fun i H' x H'' hi s y=>by obtain⟨p,v,hp,rfl,rfl,hy⟩:=y;exact⟨ap hp _,p,v,rfl,hy xs (s.seq h),ai⟩
theorem cL {J:It} {H:Hp} {D:Addr} {n:Nat} {P:Nat->V->Hp->Prop} (w:DT J H n P) (c:Nat->Bool) (f:Nat->V) {src:List (Option Nat)} {σ:L2.St} {g:TG} {tt:TT} {te:TE} {Q:Hp->Prop} (hD:H D=none) (hn:n≤1000)
  (turn:∀ (i:Nat) (x:V) (H':Hp),i < n->aB H H'->P i x H'->∀ (R:VK) (E:Hp->Prop),(c i=true->∀ H'',aB H' H''->R (f i) H'')->(c i=false->∀ H'',aB H' H''->E H'')→
   g x (cZ src σ) H' fun σ2 H2=>iz (cZ src σ) σ2/\tt σ2 H2 fun ok H3=>if ok=true then te σ2 H3 R else E H3)
  (fin:∀ H',aB H H'->H' D=some (.lst (((List.range n).filter c).map f))->Q H') :
  JD J D H src σ g tt te Q:=by
 refine⟨fun i m ys H'=>i≤n/\m=n - i/\ys=((List.range i).filter c).map f/\aB H H'/\H' D=some (.lst ys),⟨_,Nat.zero_le _,rfl,rfl,ap hD _,ai⟩,?_⟩
 rintro i m ys H1 ⟨hi,rfl,rfl,s1,d1⟩
 by_cases hix:i < n
 ·refine .inr ⟨w.go i H1 hix s1,fun x H2 y=>?_⟩
  obtain⟨s2,p⟩:=w.yld i H1 x H2 hix s1 y
  have d2:=s2 _ _ d1
  have len:(((List.range i).filter c).map f).length≤i:=by
   rw [List.length_map]
   exact Nat.le_trans (List.length_filter_le _ _) (by rw [List.length_range];exact Nat.le_refl _)
  refine turn i x H2 hix (s1.trans s2) p _ _ (fun hc H3 s3=>?_) fun hc H3 s3=>?_
  ·have d3:=s3 _ _ d2
   refine⟨d3,aY (by omega),n - (i+1),by omega,hix,rfl,?_,fun b o q=>?_,ai⟩
   ·rw [List.range_succ,List.filter_append,List.map_append]
    simp [hc]
   ·rw [az (aK q hD)]
    exact s3 _ _ (s2 _ _ (s1 _ _ q))
  ·refine⟨n - (i+1),by omega,hix,rfl,?_,(s1.trans s2).trans s3,s3 _ _ d2⟩
   rw [List.range_succ,List.filter_append,List.map_append]
   simp [hc]
 ·have e:i=n:=by omega
  subst e
  exact .inl ⟨w.stop H1 s1,fin H1 s1 d1⟩
theorem fh {α β:Type} (d:α) (p:α->Bool) (f:α->β):∀ l:List α,((List.range l.length).filter fun i=>p (l.getD i d)).map (fun i=>f (l.getD i d))=(l.filter p).map f
 | []=>rfl
 | x :: l=>by
  have ih:=fh d p f l
  rw [List.length_cons,List.range_succ_eq_map,List.filter_cons,List.filter_cons]
  have e:(((List.range l.length).map Nat.succ).filter fun i=>p ((x :: l).getD i d)).map (fun i=>f ((x :: l).getD i d))=(l.filter p).map f:=by
   rw [List.filter_map,List.map_map]
   exact ih
  show (if p x=true then _ else _:List Nat).map _=_
  cases hp:p x with
  | true=>
   simp only [if_true,List.map_cons]
   rw [e];rfl
  | false=>
   simp only [Bool.false_eq_true,if_false]
   exact e
theorem cR {α β:Type} (d:α) (f:α->β) (l:List α):((List.range l.length).filter fun _=>true).map (fun i=>f (l.getD i d))=l.map f:=by
 have:=fh d (fun _=>true) f l
 rw [this,List.filter_eq_self.mpr (by intros;rfl)]
theorem av {α:Type} {l:List α} {i:Nat} {x:α} (d:α) (h:l[i]?=some x):l.getD i d=x:=by rw [List.getD_eq_getElem?_getD,h];rfl
section
variable {prog:Program} {w:World} {A:Around} {E:Value->Shared->Prop} {s:Shared}
theorem qD {l:Addr} {items:Array Value} {k:Nat} {x:Int} {u:Tok} {Q:Value->Shared->Prop} (hl:s.heap.get? l=some { cls:=.type "list", dict:=none,data:=.seq items k,slots:=#[] })
  (hlo:-(2 ^ 63:Int)≤x) (hhi:x < 2 ^ 63) (hsz:items.size * x.toNat≤2 ^ 24)
  (h:Q (.ref s.heap.objs.size) { s with heap:=s.heap.push { cls:=.type "list", data:=.seq (List.foldl (fun x1 x2=>x1++x2) #[] (List.replicate (if items.isEmpty=true then 0 else x.toNat) items)) } }) :
  wpAny (model prog w) A (binaryOp .Mult (.ref l) (.int x u)) Q E s:=
 wpAny_binaryOp_repeat_ref (T := "list") (U := "int") (by decide) ⟨_,hl,rfl⟩ (fun s'=>typeIs_int s' x u) noFill_list_mul F.fills_int_mul F.slot_int_rmul repeat_list F.slot_int_index.lookup
  (call_meets F.slot_int_rmul (typeIs_int s x u) F.entry_int_rmul (F.args_int_rmul_2 _ _) (int___rmul___int_list x u l items k)
   ⟨hl,rfl,⟨_,hl,rfl⟩,call_meets F.slot_list_mul ⟨_,hl,rfl⟩ F.entry_list_mul (F.args_list_mul_2 _ _)
    (AutoListH.list___mul___list_int_3 l items k x u (by simp [Builtin.List.listFitsIndex];omega) (by omega) (by simp [Builtin.List.listTooLong,sizeLine];omega))
    ⟨hl,h⟩⟩)
end
theorem qZ (u:Value):∀ (n:Nat) (acc:Array Value),(List.foldl (fun x1 x2=>x1++x2) acc (List.replicate n #[u])).toList=acc.toList++List.replicate n u
 | 0,acc=>by simp
 | n+1,acc=>by
  rw [List.replicate_succ,List.foldl_cons,qZ u n,List.replicate_succ]
  simp
theorem p7 {v:V} {u:Value} (r:aZ v u):∀ n:Nat,aX (List.replicate n v) (List.replicate n u)
 | 0=>.nil
 | n+1=>.cons r (p7 r n)
theorem uz {X:Cx}:gF X (binaryOp .Mult) (fun x y H Q=>∃ (p:Addr) (v:V) (n:Nat),x=.ref p/\y=.int n/\H p=some (.lst [v])/\n≤1000/\∀ l,H l=none->Q (.ref l) (aG H l (.lst (List.replicate n v)))):=by
 intro pins s σ H x y xv yv Q I rx ry h
 obtain⟨p,v,n,rfl,rfl,hp,hn,q⟩:=h
 cases (show xv=Value.ref p from rx)
 obtain⟨t,rfl⟩:=(show ∃ t,yv=Value.int n t from ry)
 obtain⟨_,its,c,rv,e⟩:=(show bE X.prog X.w H s.heap p (.lst [v]) from I.hok p _ hp)
 cases rv with
 | @cons _ u _ _ r0 rr=>
 cases rr
 refine qD e (by omega) (by omega) (by simp;omega) ?_
 have el:(List.foldl (fun x1 x2=>x1++x2) #[] (List.replicate (if ([u]:List Value).toArray.isEmpty=true then 0 else (n:Int).toNat) [u].toArray))=(List.replicate n u).toArray:=by
  apply Array.ext'
  have:=qZ u n #[]
  simpa using this
 rw [el]
 have I2:Inv X pins σ (aG H s.heap.objs.size (.lst (List.replicate n v))) { s with heap:=s.heap.push { cls:=.type "list", data:=.seq (List.replicate n u).toArray } }:=
  I.laid (t':=s.toks) (fun b o e=>Heap.get?_push_of_some _ e) (Nat.le_refl _) (show bE X.prog X.w _ _ _ (.lst (List.replicate n v)) from ⟨by rw [List.length_replicate,sizeLine_eq];omega,List.replicate n u,_,p7 r0 n,Heap.get?_push_size _ rfl⟩)
 exact⟨.ref s.heap.objs.size,_,I2,rfl,q _ (I.hok.fresh (Nat.le_refl _))⟩
theorem tj {X:Cx} (hc:X.calm=true):dD X (.type "list") (fun xs H Q=>∃ p,∃ n:Nat,xs=[.ref p]/\H p=some (.rng 0 n)/\n≤1000/\∀ l,H l=none->Q (.ref l) (aG H l (.lst ((upTo n).map V.int)))):=by
 intro pins s σ H xs us Q I r h
 obtain⟨p,n,rfl,hp,hn,q⟩:=h
 obtain⟨u,rfl,rx⟩:=gH r
 cases rx
 obtain⟨t,u,w,e⟩:=(show bE X.prog X.w H s.heap p (.rng 0 n) from I.hok p _ hp)
 refine call_list_range (I.ok.hd hc) (show IsRange s.heap p 0 n 1 t u w from e) (small_one (by omega) (by omega) (by omega) (by omega)) (ui n) (by omega) fun h' tk acc c' hk hS hi=>?_
 have rv:=kP hi
 have hl:(upTo n).length=n:=by unfold upTo;simp
 have I2:Inv X pins σ (aG H s.heap.objs.size (.lst ((upTo n).map V.int))) { s with heap:=h',toks:=tk }:=
  I.laid (t':=tk) hk (Nat.le_refl _) (show bE X.prog X.w _ _ _ (.lst ((upTo n).map V.int)) from ⟨by rw [List.length_map,hl,sizeLine_eq];omega,acc.toList,c',rv,by simpa using hS⟩)
 exact⟨.ref s.heap.objs.size,_,I2,rfl,q _ (I.hok.fresh (Nat.le_refl _))⟩
theorem mX {X:Cx} {K:PySem.W.Frag} (hK:X.K=K):gF X (compareOp .NotIn) (LR K true):=hK ▸ pj
theorem CK (t:Nat) (ls:List Nat):Gn (.int t) (ls.map fun n:Nat=>V.int n)=ls.contains t:=by
 unfold Gn
 rw [List.any_map]
 induction ls with
 | nil=>rfl
 | cons a r ih=>
  rw [List.any_cons,List.contains_cons,ih]
  congr 1
  show decide (((a:Nat):Int)=(t:Nat))=(t == a)
  by_cases h:t=a
  ·subst h;simp
  ·rw [beq_eq_false_iff_ne.mpr h]
   exact decide_eq_false (by omega)
theorem Av (ls:List Nat):(ls.map fun n:Nat=>V.int n).all jt=true:=by
 rw [List.all_map,List.all_eq_true]
 intro x _
 rfl
def Df (ds:List PyData):Prop:=∀ e∈ds,e.canLay0=true/\e.depth≤32
def M9 (K:PySem.W.Frag):R2:=fun x y H Q=>∃ p xs ds d,y=.ref p/\aU K H p xs/\bz K H xs ds/\Df ds/\bw K H x d/\d.canLay0=true/\PyData.eqv d d=true/\Q (.bl (ds.any fun e=>PyData.eqv e d)) H
def JU (K:PySem.W.Frag):R2:=fun x y H Q=>∃ p xs ds d,y=.ref p/\aU K H p xs/\bz K H xs ds/\Df ds/\bw K H x d/\d.canLay0=true/\PyData.eqv d d=true/\Q (.bl (!ds.any fun e=>PyData.eqv e d)) H
def LQ (K:PySem.W.Frag):R2:=fun x y H Q=>∃ p xs ds d,y=.ref p/\bt K H p xs/\bz K H xs ds/\Df ds/\bw K H x d/\d.canLay0=true/\PyData.eqv d d=true/\Q (.bl (ds.any fun e=>PyData.eqv e d)) H
def JX (K:PySem.W.Frag):V->List V->Hp->VK->Prop:=fun x vs H Q=>∃ p xs ds w d,x=.ref p/\vs=[w]/\aU K H p xs/\bz K H xs ds/\Df ds/\bw K H w d/\d.canLay0=true/\PyData.eqv d d=true/\(∃ e∈ds,PyData.eqv e d=true)∧
 ∀ (j:Nat) (e:PyData),ds[j]?=some e->PyData.eqv e d=true->(∀ m f,m < j->ds[m]?=some f->PyData.eqv f d=false)->Q (.int j) H
def JV:V->List V->Hp->VK->Prop:=fun x vs H Q=>∃ (l:Addr) (xs:List V) (j:Nat) (y:V),x=.ref l/\vs=[.int j,y]/\H l=some (.lst xs)/\j≤xs.length/\xs.length < sizeLine/\Q .non (aG H l (.lst (xs.take j++y :: xs.drop j)))
mutual
def L6:PyData->Bool
 | .int i=>decide (i.natAbs < 2 ^ 230)
 | .tuple ds=>sV ds
 | .list ds=>sV ds
 | .dict _=>false
 | _=>true
def sV:List PyData->Bool
 | []=>true
 | d :: ds=>L6 d && sV ds
end
structure Gd (k n:Nat) (d:PyData):Prop where
 sh:Sh k n d
 lay:d.canLay0=true
 bd:L6 d=true
def Jg:PyData->R
 | .tuple [.int a,.int b]=>(a,b)
 | _=>(0,1)
def KN:PyData->R×R
 | .tuple [x,y]=>(Jg x,Jg y)
 | _=>sf
end B
namespace B
open PySem PySem.Spec L2 PyProof.Rows
theorem wE {X:Cx} (hc:X.calm=true):dD X (.builtin "max") (fun xs H Q=>∃ (p:Addr) (ns:List Int),xs=[.ref p]/\aU X.K H p (ns.map V.int)/\0 < ns.length/\∀ M,M∈ns->(∀ a∈ns,a≤M)->Q (.int M) H):=by
 intro pins s σ H xs us Q I r h
 obtain⟨p,ns,rfl,hq,hne,q⟩:=h
 obtain⟨u,rfl,rx⟩:=gH r
 cases rx
 obtain⟨its,rv,pl,hz⟩:=I.list hq
 have hi:=kK rv
 obtain⟨zs,ez⟩:=hi.allInts.items
 have hl:=pl.isList
 rw [ez] at hl
 have en:numsOf its=ns:=hi.numsOf
 rw [show its=its.toArray.toList from rfl,ez,nums_intItems] at en
 have hlen:zs.size=ns.length:=by rw [← en,List.length_map,Array.length_toList]
 refine max_intList (I.ok.hd hc) hl (by omega) fun v h' tk hv hk=>?_
 obtain⟨t,rfl⟩:=intItems_at hv
 obtain⟨h1,h2⟩:=argBest_gt (numAt zs) (zs.size - 1)
 refine⟨.int _,H,I.kept (t':=tk) hk,⟨_,rfl⟩,q _ ?_ fun a ha=>?_⟩
 ·rw [numAt_eq,en];exact getD_mem (by omega)
 ·rw [← en] at ha
  obtain⟨j,hj,rfl⟩:=mem_getD ha
  rw [List.length_map,Array.length_toList] at hj
  rw [← numAt_eq];exact h2 j (by omega)
theorem nV {X:Cx} (hc:X.calm=true):dD X (.builtin "min") (fun xs H Q=>∃ (p:Addr) (ns:List Int),xs=[.ref p]/\aU X.K H p (ns.map V.int)/\0 < ns.length/\∀ M,M∈ns->(∀ a∈ns,M≤a)->Q (.int M) H):=by
 intro pins s σ H xs us Q I r h
 obtain⟨p,ns,rfl,hq,hne,q⟩:=h
 obtain⟨u,rfl,rx⟩:=gH r
 cases rx
 obtain⟨its,rv,pl,hz⟩:=I.list hq
 have hi:=kK rv
 obtain⟨zs,ez⟩:=hi.allInts.items
 have hl:=pl.isList
 rw [ez] at hl
 have en:numsOf its=ns:=hi.numsOf
 rw [show its=its.toArray.toList from rfl,ez,nums_intItems] at en
 have hlen:zs.size=ns.length:=by rw [← en,List.length_map,Array.length_toList]
 refine min_intList (I.ok.hd hc) hl (by omega) fun v h' tk hv hk=>?_
 obtain⟨t,rfl⟩:=intItems_at hv
 obtain⟨h1,h2⟩:=argBest_lt (numAt zs) (zs.size - 1)
 refine⟨.int _,H,I.kept (t':=tk) hk,⟨_,rfl⟩,q _ ?_ fun a ha=>?_⟩
 ·rw [numAt_eq,en];exact getD_mem (by omega)
 ·rw [← en] at ha
  obtain⟨j,hj,rfl⟩:=mem_getD ha
  rw [List.length_map,Array.length_toList] at hj
  rw [← numAt_eq];exact h2 j (by omega)
theorem AI {J:It} {H:Hp} {D:Addr} {n:Nat} (Pv:Nat->List V->Hp->Prop) {src:List (Option Nat)} {σ:L2.St} {g:TG} {tt:TT} {te:TE} {Q:Hp->Prop} (h0:Pv 0 [] (aG H D (.lst [])))
  (go:∀ i ys H',i < n->Pv i ys H'->J.go i H') (stop:∀ ys H',Pv n ys H'->J.stop n H'/\Q H')
  (turn:∀ i ys H' x H'',i < n->Pv i ys H'->J.yld i H' x H''->∀ (R:VK) (E:Hp->Prop),(∀ y H4,H4 D=some (.lst ys)->ys.length < sizeLine->Pv (i+1) (ys++[y]) (aG H4 D (.lst (ys++[y])))->R y H4)->(∀ H3,Pv (i+1) ys H3->E H3)→
   g x (cZ src σ) H'' fun σ2 H2=>iz (cZ src σ) σ2/\tt σ2 H2 fun ok H3=>if ok=true then te σ2 H3 R else E H3) :
  JD J D H src σ g tt te Q:=by
 refine⟨fun i m ys H'=>i≤n/\m=n - i/\Pv i ys H',⟨_,Nat.zero_le _,rfl,h0⟩,?_⟩
 rintro i m ys H1 ⟨hi,rfl,p⟩
 by_cases hix:i < n
 ·refine .inr ⟨go i ys H1 hix p,fun x H2 y=>?_⟩
  refine turn i ys H1 x H2 hix p y _ _ (fun y H4 a b c=>⟨a,b,n - (i+1),by omega,hix,rfl,c⟩) fun H3 c=>⟨n - (i+1),by omega,hix,rfl,c⟩
 ·have e:i=n:=by omega
  subst e
  exact .inl (stop ys H1 p)
def Ke (t:TS):TS:=fun D σ H=>∃ M:L2.St->Hp->Prop,t { D with nx:=M } σ H/\∀ σ' H',M σ' H'->D.nx σ' H'
theorem EV {X:Cx} {st:Stmt} {t:TS} (h:QS X st t):QS X st (Ke t):=⟨by
 intro pins s σ H D I q
 obtain⟨M,q,k⟩:=q
 refine bX (h.p pins s σ H _ I q) fun f s' z=>?_
 cases f with
 | next=>obtain⟨σ',H',I',m⟩:=z;exact⟨σ',H',I',k _ _ m⟩
 | brk=>exact z
 | cont=>exact z
 | ret u=>exact z⟩
end B
namespace B
abbrev Ln:=Nat×Nat
inductive Db (es:List Ln):Nat->Nat->Prop where
 | one {a b:Nat} (h:(a,b)∈es):Db es a b
 | step {a b c:Nat} (h:(a,b)∈es) (t:Db es b c):Db es a c
def NH (n:Nat) (es:List Ln):Prop:=∀ e∈es,e.1 < n/\e.2 < n
def On (n:Nat) (es:List Ln) (L:Nat->Nat->Bool):Prop:=∀ i j,i < n->j < n->(L i j=true↔Db es j i)
def Nn (L:Nat->Nat->Bool) (a b:Nat):Nat->Nat->Bool:=fun i j=>L i j || ((decide (i=b) || L i b) && (decide (j=a) || L a j))
structure Rx (n:Nat) (es:List Ln) (v:Nat->Int) (ps:Nat->Nat) (r k:Nat) (F:Nat->Int):Prop where
 bas:∀ i,i < n->v i≤F i
 att:∀ i,i < n->∃ j,j < n/\(j=i∨Db es j i)/\F i=v j
 don:∀ i,i < n->ps i < r->∀ j,j < n->(j=i∨Db es j i)->v j≤F i
 cur:∀ m a b,m < k->es[m]?=some (a,b)->ps b≤r->∀ j,j < n->(j=a∨Db es j a)->v j≤F b
def MV (F:Nat->Int) (a b:Nat):Nat->Int:=fun i=>if i=b then max (F b) (F a) else F i
structure Od (n:Nat) (es:List Ln) (v:Nat->Int) (F:Nat->Int):Prop where
 up:∀ i j,i < n->j < n->(j=i∨Db es j i)->v j≤F i
 att:∀ i,i < n->∃ j,j < n/\(j=i∨Db es j i)/\F i=v j
def NU (es:List Ln):List Ln:=es.map fun e=>(e.2,e.1)
end B
namespace B
open PySem PySem.Spec L2 PyProof.Rows
def JJ (r r' r'':R2) (ta tb tc td:TE):TE:=fun σ H Q=>ta σ H fun x H1=>tb σ H1 fun y H2=>r x y H2 fun z H3=>∃ k,z=.bl k∧
 (if k=true then tc σ H3 fun w' H4=>r' y w' H4 fun z' H5=>∃ k',z'=.bl k'/\(if k'=true then td σ H5 fun u' H6=>r'' w' u' H6 Q else Q (.bl false) H5) else Q (.bl false) H3)
section
variable {prog:Program} {w:World} {A:Around} {E:Value->Shared->Prop} {s:Shared}
end
def MI (K:PySem.W.Frag) (te:TE):TE:=fun σ H Q=>te σ H fun x H1=>∃ a xs,x=.ref a/\bt K H1 a xs/\∀ p,H1 p=none->Q (.ref p) (aG H1 p (.tup xs.reverse))
end B
namespace B
theorem rj {b:Int} (h:0 < b):(0:Rat) < (b:Rat):=by
 have:=Rat.intCast_lt_intCast.mpr h
 exact this
theorem kW {r q:R} (hr:0 < r.2) (hq:0 < q.2):cS r q=true↔val r < val q:=by
 rw [Ae,← Rat.intCast_lt_intCast,Rat.intCast_mul,Rat.intCast_mul]
 have h1:=rj hr
 have h2:=rj hq
 have e1:(r.1:Rat)=val r * (r.2:Rat):=by
  have:=cK hr
  unfold val
  generalize (r.1:Rat)=x at *
  generalize (r.2:Rat)=y at *
  grind
 have e2:(q.1:Rat)=val q * (q.2:Rat):=by
  have:=cK hq
  unfold val
  generalize (q.1:Rat)=x at *
  generalize (q.2:Rat)=y at *
  grind
 rw [e1,e2]
 generalize val r=x at *
 generalize val q=y at *
 generalize (r.2:Rat)=u at *
 generalize (q.2:Rat)=v at *
 have c:0 < u * v:=Rat.mul_pos h1 h2
 constructor
 ·intro h
  have h':x * (u * v) < y * (u * v):=by grind
  by_cases w:x < y
  ·exact w
  ·have z:y≤x:=Rat.not_lt.mp w
   have:=Rat.mul_le_mul_of_nonneg_right z (Rat.le_of_lt c)
   grind
 ·intro h
  have:=Rat.mul_lt_mul_of_pos_right h c
  grind
theorem ia {r q:R} (hr:0 < r.2) (hq:0 < q.2):cS r q=false↔val q≤val r:=by
 have a:=kW hr hq
 cases c:cS r q with
 | true=>
  have:=a.mp c
  constructor
  ·intro z;cases z
  ·intro z;grind
 | false=>
  constructor
  ·intro _
   by_cases w:val r < val q
   ·rw [a.mpr w] at c;cases c
   ·exact Rat.not_lt.mp w
  ·intro _;rfl
end B
namespace B
open PySem PySem.Spec L2 PyProof.Rows
def Og (zs:List R):Prop:=zs.Pairwise fun a b=>cS a b=true
theorem cn.drop {α:Type} {P:V->α->Prop}:∀ {xs:List V} {ds:List α} (n:Nat),cn P xs ds->cn P (xs.drop n) (ds.drop n)
 | _,_,0,h=>h
 | _,_,_+1,.nil=>.nil
 | _,_,n+1,.cons _ t=>cn.drop n t
end B
namespace L2
open PySem PySem.Spec PyProof.Rows
structure Jm (k:Nat) (A:Around):Prop where
 dp:A.depth+3 * k+5 < recursionLimit
 un:A.units+16 * k+200 < cLine
 gd:A.guards=some []
structure Mt (P:Program) (w:World) (K:PySem.W.Frag) (mg:Str->Option Value) (base:Heap) (CX:rG) (k:Nat) (f:Addr) (fd:FuncData) (ps:List Str) (sp:Sp):Prop where
 len:∀ vs H Q E,sp vs H Q E->vs.length=ps.length
 run:∀ (A:Around) (outer:List Env) (s:Shared) (H:Hp) (args:Args) (us:List Value) (vs:List V) (Q:VK) (E:XK),Jm k A->rE P w K mg base A outer s H->BindsTo s fd args (ps.zip us)->aX vs us->sp vs H Q E→
  codeAny (model P w) A (.call (.ref f) args) (CR CX outer P w H s Q E) s
def N5 (CX:rG) (P:Program) (w:World) (K:PySem.W.Frag) (mg:Str->Option Value) (base:Heap) (N:List Str) (qual:Str) (scope:Scope) (f:Addr) (cd:Value) (A:Around) (outer:List Env) (s:Shared) (H:Hp) (E:XK):Cx:={ bG CX P w K mg base N qual scope f cd A outer s H E with calm:=false }
section
variable {X:Cx} {CX:rG} {k:Nat} {f C:Addr} {fd:FuncData} {ps:List Str} {sp:Sp} {dvs:List V} {ds:List Value} {E:XK} {x m:Str} {p pos apos:Pos} {e o:Expr} {es:List Expr} {ta:TE} {t:TA}
end
section
variable {P:Program} {w:World} {K:PySem.W.Frag} {mg:Str->Option Value} {base:Heap}
end
end L2
namespace B
open PySem PySem.Spec L2 PyProof.Rows
section
set_option autoImplicit true
set_option relaxedAutoImplicit true
end
def Js (d:Addr) (ob:Obj) (kvs:List (cP×V)):It:=
 ⟨fun i H=>H d=some (.frz ob (.dK kvs))/\i < kvs.length,
  fun i H x H'=>∃ p k v,H p=none/\x=.ref p/\kvs[i]?=some (k,v)/\H'=aG H p (.tup [kV k,v]),
  fun i H=>H d=some (.frz ob (.dK kvs))/\kvs.length≤i⟩
theorem KV.get:∀ {kvs:List (cP×V)} {vs:List (cP×Value)},KV kvs vs->∀ {i:Nat} {k:cP} {v:V},kvs[i]?=some (k,v)->∃ u,vs[i]?=some (k,u)/\aZ v u
 | _,_,.nil,i,k,v,h=>by simp at h
 | (a,b) :: r,(c,d) :: t,.cons h z,0,k,v,e=>by
  have e':(a,b)=(k,v):=by simpa using e
  cases e'
  obtain⟨h1,h2⟩:=h
  have h1':a=c:=h1
  subst h1'
  exact⟨d,rfl,h2⟩
 | _ :: r,_ :: t,.cons h z,i+1,k,v,e=>by
  obtain⟨u,q,w⟩:=KV.get z (i:=i) (by simpa using e)
  exact⟨u,by simpa using q,w⟩
theorem IP {k:cP} {u:Value} (h:me k u=true):aZ (kV k) u:=by
 rcases bT h with ⟨i,t,rfl,rfl⟩ | ⟨x,t,rfl,rfl⟩
 ·exact⟨t,rfl⟩
 ·exact⟨t,rfl⟩
theorem Gu:entryFor table "dict_itemiterator.__iter__" = some Builtin.«dict_keyiterator.__iter__»:=
 entryFor_alias (by kernel_rfl) (by first | rfl | decide +kernel | (unfold String.splitOn;simp +decide [String.splitOnAux])) (by decide +kernel) (by kernel_rfl) (id' := "dict_keyiterator.__iter__")
theorem rJ {P:Program} {w:World} {K:PySem.W.Frag} {elts:List Expr} {x1} {pos:Pos} {it d:Addr} {ob:Obj} {kvs:List (cP×V)} {es:Array DictEntry} {ep:Nat} (hob:ob.data=.dict es ep) :
  tH P w K (.Tuple elts x1 pos) (Js d ob kvs) [it] it (fun i h=>∃ ok ov,IsItemIter h it d i kvs.length ep ok ov) where
 mem:=by simp
 obj:=fun i h st c hc=>by
  obtain⟨ok,ov,e⟩:=st
  rw [List.mem_singleton] at hc
  subst hc
  exact⟨_,e,fun v q=>by cases (show Data.fields _=Data.cell v from q)⟩
 keep:=fun i h h' ⟨ok,ov,e⟩ k=>⟨ok,ov,k it (by simp) _ e⟩
 item:=by
  intro X hP hw hK hc i pins s σ H E I hf st hg
  subst hP hw hK
  obtain⟨hd,hi⟩:=hg
  obtain⟨ok,ov,e⟩:=st
  obtain⟨q0,z,hds,vs,rel,o,es',ep',d1,d2,d3,d4⟩:=(show bE X.prog X.w H s.heap d (.frz ob (.dK kvs)) from I.hok d _ hd)
  have eo:o=ob:=Option.some.inj (d1.symm.trans q0)
  subst eo
  rw [hob] at d3
  cases d3
  have dat:s.heap.DictAt (bQ X.prog X.w) d vs ep:=⟨o,es,d1,d2,hob,d4⟩
  obtain⟨k,v,hkv'⟩:∃ k v,kvs[i]?=some (k,v):=⟨(kvs[i]'hi).1,(kvs[i]'hi).2,List.getElem?_eq_getElem hi⟩
  obtain⟨u,hu,ru⟩:=KV.get rel hkv'
  have ndi:it≠d:=fun q=>by rw [q] at hf;have:=(hf d (by simp)).1;rw [hd] at this;cases this
  have itl:it < s.heap.objs.size:=Heap.lt_size e
  rw [rel.length] at e
  refine wpAny_pyNext_items_item e dat hu fun key h1 hkey eo tup hz hk=>⟨_,rfl,wpAny_letOwnedTupleGo_items eo fun h2 e2 sb=>?_⟩
  have nt:s.heap.objs.size≠it:=Nat.ne_of_gt itl
  have P:bE X.prog X.w (aG H s.heap.objs.size (.tup [kV k,v])) h2 s.heap.objs.size (.tup [kV k,v]):=
   ⟨by show 2≤sizeLine;decide,[key,u],.cons (IP hkey) (.cons ru .nil),⟨_,sb.extBut _ _ nt tup,rfl,_,rfl⟩⟩
  have I2:Inv X pins σ (aG H s.heap.objs.size (.tup [kV k,v])) { s with heap:=h2,toks:=s.toks }:=ub I (fun c o' n q=>by
   have n':c≠it:=fun r=>n (by simp [r])
   exact sb.extBut _ _ n' (hk c o' n' q)) hf (Nat.le_refl _) P
  refine⟨.ref s.heap.objs.size,_,I2,rfl,⟨_,k,v,I.fresh,rfl,hkv',rfl⟩,⟨key,u,by rw [rel.length];exact e2⟩,fun c hc=>?_⟩
  have hc':c=it:=by simpa using hc
  rw [hc',az (Ne.symm nt)]
  exact (hf it (by simp)).1
 done:=by
  intro X hP hw hK hc i pins s σ H E I hf st hg
  subst hP hw hK
  obtain⟨hd,hi⟩:=hg
  obtain⟨ok,ov,e⟩:=st
  obtain⟨q0,z,hds,vs,rel,o,es',ep',d1,d2,d3,d4⟩:=(show bE X.prog X.w H s.heap d (.frz ob (.dK kvs)) from I.hok d _ hd)
  have eo:o=ob:=Option.some.inj (d1.symm.trans q0)
  subst eo
  rw [hob] at d3
  cases d3
  have dat:s.heap.DictAt (bQ X.prog X.w) d vs ep:=⟨o,es,d1,d2,hob,d4⟩
  have hh:X.A.in1.handled=none:=I.ok.hd hc
  rw [rel.length] at e hi
  refine wpAny_pyNext_items_end hh e dat (List.getElem?_eq_none hi) fun h1 ex=>⟨rfl,?_⟩
  exact uc (t':=s.toks) I (fun c o' n q=>ex c o' (fun r=>n (by simp [r])) q) hf
 self:=fun A i s Q E st h=>by
  obtain⟨ok,ov,e⟩:=st
  have hT:s.TypeIs (.ref it) "dict_itemiterator" := ⟨_,e,rfl⟩
  refine wpAny_pyIter_slot hT PySem.F.slot_dict_itemiterator_iter (wpAny_call_entry PySem.F.slot_dict_itemiterator_iter hT Gu ?_ (PySem.F.args_dict_itemiterator_iter_1 _))
  show wpAny _ _ (ret (.ref it)) _ _ s
  exact wpAny_pure ⟨_,rfl, "dict_itemiterator", _,hT,PySem.F.slot_dict_itemiterator_next.lookup,h⟩
def An (td:TE):TI:=fun σ H R=>td σ H fun x H1=>∃ d kvs,x=.ref d/\H1 d=some (.dK kvs)/\∀ ob,R (Js d ob kvs) (aG H1 d (.frz ob (.dK kvs)))
theorem zp {X:Cx} {elts:List Expr} {x1} {tp apos pos:Pos} {o:Expr} {td:TE} (ho:PE X o td) (hb:attributeBase o "items" X.env (eval o X.env)=eval o X.env:=by rfl) (hl:(apos.endLine == pos.line)=true:=by rfl) :
  PI X (.Tuple elts x1 tp) (.Call (.Attribute o "items" apos) [] [] pos) (An td):=by
 intro pins s σ H R I h
 refine wpAny_Call_method (T := "dict") (id := "dict.items") hb rfl hl PySem.F.plainAttrs_dict PySem.F.slot_dict_items PySem.F.type_dict_items (bX (ho pins s σ H _ I h) fun u s1 ⟨x,H1,I1,rx,d,kvs,ex,e,q⟩=>?_)
 subst ex
 obtain rfl:u=Value.ref d:=rx
 obtain⟨z,hds,vs,rel,dd⟩:=DR I1.hok e
 obtain⟨t1,t2,_⟩:=Al I1 (.inl ⟨kvs,.inl e⟩)
 refine⟨t1,t2,?_⟩
 show wpAny _ _ (callWith pos (.builtin "dict.items") [.ref d] [] []) _ _ _
 refine method_meetsIn PySem.F.slot_dict_items PySem.F.entry_dict_items rfl (PySem.evalArgs_none ⟨rfl,t1,PySem.F.args_dict_items_1 _,_,meets_dict_items (bQ X.prog X.w) d hds,⟨vs,dd⟩,?_⟩)
 obtain⟨o',es,ep,d1,d2,d3,d4⟩:=id dd
 have dat:s1.heap.DictAt (bQ X.prog X.w) d vs ep:=⟨o',es,d1,d2,d3,d4⟩
 refine wpAny_pyIter_items (d:=d) (kvs:=vs) (ep:=ep) ⟨_,Heap.get?_push_size _ rfl,rfl,rfl⟩ (dat.push _) ?_
 have sz:(s1.heap.push { cls:=.type "dict_items", data:=.fields #[.ref d] }).objs.size=s1.heap.objs.size+1:=Heap.size_push ..
 have I2:=I1.kept (t':=s1.toks) (h':=(s1.heap.push { cls:=.type "dict_items", data:=.fields #[.ref d] }).push { cls:=.type "dict_itemiterator", data:=.fields #[.none,.bool false,.ref d,.int 0 0,.int vs.length 0,.int ep 0,.none,.none] }) fun b o q=>Heap.get?_push_of_some _ (Heap.get?_push_of_some _ q)
 have hit:=Heap.get?_push_size (s1.heap.push { cls:=.type "dict_items", data:=.fields #[.ref d] }) (o:={ cls:=.type "dict_itemiterator", data:=.fields #[.none,.bool false,.ref d,.int 0 0,.int vs.length 0,.int ep 0,.none,.none] }) rfl
 have dl:d < s1.heap.objs.size:=Heap.lt_size d1
 have k2:∀ b o,s1.heap.get? b=some o->((s1.heap.push { cls:=.type "dict_items", data:=.fields #[.ref d] }).push { cls:=.type "dict_itemiterator", data:=.fields #[.none,.bool false,.ref d,.int 0 0,.int vs.length 0,.int ep 0,.none,.none] }).get? b=some o:=fun b o q=>Heap.get?_push_of_some _ (Heap.get?_push_of_some _ q)
 generalize (s1.heap.push { cls:=.type "dict_items", data:=.fields #[.ref d] }).push { cls:=.type "dict_itemiterator", data:=.fields #[.none,.bool false,.ref d,.int 0 0,.int vs.length 0,.int ep 0,.none,.none] }=hE at I2 hit k2 ⊢
 rw [sz] at hit ⊢
 have I3:=pT (h':=hE) (t':=s1.toks) (ob:=.frz o' (.dK kvs)) I2 (by rw [e];exact True.intro) ⟨rfl,fun _ _=>rfl⟩ ⟨_,k2 _ _ d1⟩ ⟨k2 _ _ d1,z,hds,vs,rel,o',es,ep,k2 _ _ d1,d2,d3,d4⟩
 have nd:s1.heap.objs.size+1≠d:=Nat.ne_of_gt (Nat.lt_succ_of_lt dl)
 refine⟨_,[s1.heap.objs.size+1],_,_,_,rfl,I3,rJ d3,⟨.none,.none,by rw [rel.length];exact hit⟩,fun c hc=>?_,q o'⟩
 have hc':c=s1.heap.objs.size+1:=by simpa using hc
 subst hc'
 exact I1.fpOk (Nat.le_succ _) (by rw [az nd];exact I1.hok.fresh (Nat.le_succ _))
theorem nN {d:Addr} {ob:Obj} {kvs:List (cP×V)} {g:TG} {tb:TS} {D:jI} {σ:L2.St} {H:Hp} (Pv:Nat->L2.St->Hp->Prop) (h0:Pv 0 σ H)
  (hl:∀ i σ H,Pv i σ H->H d=some (.frz ob (.dK kvs)))
  (hs:∀ i k v p σ H,kvs[i]?=some (k,v)->Pv i σ H->H p=none->g (.ref p) σ (aG H p (.tup [kV k,v])) fun σ2 H2=>tb { D with nx:=Pv (i+1),ct:=Pv (i+1),bk:=D.nx } σ2 H2) (hd:∀ σ H,Pv kvs.length σ H->D.nx σ H) :
  ∃ W:Nat->Nat->L2.St->Hp->Prop,(∃ m,W 0 m σ H)/\∀ i m σ H,W i m σ H→
   ((Js d ob kvs).stop i H/\D.nx σ H)∨((Js d ob kvs).go i H/\∃ N:L2.St->Hp->Prop,(∀ σ' H',N σ' H'->∃ m',m' < m/\W (i+1) m' σ' H')/\∀ x H',(Js d ob kvs).yld i H x H'->g x σ H' fun σ2 H2=>tb { D with nx:=N,ct:=N,bk:=D.nx } σ2 H2):=by
 refine⟨fun i m σ H=>m=kvs.length - i/\i≤kvs.length/\Pv i σ H,⟨_,rfl,Nat.zero_le _,h0⟩,?_⟩
 rintro i m σ H ⟨rfl,hi,p⟩
 have q:=hl i σ H p
 by_cases hlt:i < kvs.length
 ·refine .inr ⟨⟨q,hlt⟩,Pv (i+1),fun σ' H' p'=>⟨kvs.length - (i+1),by omega,rfl,hlt,p'⟩,fun x H' y=>?_⟩
  obtain⟨pp,k,v,hp,rfl,hkv,rfl⟩:=y
  exact hs i k v pp σ _ hkv p hp
 ·have e:i=kvs.length:=by omega
  subst e
  exact .inl ⟨⟨q,Nat.le_refl _⟩,hd σ H p⟩
def mZ (ps:List (Int×Int)):List (cP×V):=ps.map fun p=>(Sum.inl p.1,V.int p.2)
def rK:List (Int×Int)->Int->Int
 | [],_=>0
 | (c,u) :: r,b=>if c=b then u else rK r b
def fG:List (Int×Int)->Int->Int->List (Int×Int)
 | [],b,t=>[(b,0+t)]
 | (c,u) :: r,b,t=>if c=b then (c,u+t) :: r else (c,u) :: fG r b t
theorem zd {p:cP×V} {r:List (cP×V)} {k:cP} {v:V} (e:p.1=k) (n:∀ q∈r,q.1≠k):gf (p :: r) k v=(k,v) :: r:=by
 unfold gf
 rw [if_pos (by simp [e]),List.map_cons,if_pos e,e]
 congr 1
 exact (List.map_congr_left (g:=id) (fun q hq=>by rw [if_neg (n q hq)];rfl)).trans (List.map_id r)
theorem vN {p:cP×V} {r:List (cP×V)} {k:cP} {v:V} (e:¬ p.1=k):gf (p :: r) k v=p :: gf r k v:=by
 unfold gf
 rw [List.any_cons,decide_eq_false e,Bool.false_or]
 split
 ·rw [List.map_cons,if_neg e]
 ·rfl
theorem pO:∀ (ps:List (Int×Int)) (b:Int),(jL (mZ ps) (Sum.inl b)).getD (V.int 0)=V.int (rK ps b)
 | [],b=>rfl
 | (c,u) :: r,b=>by
  show (jL ((Sum.inl c,V.int u) :: mZ r) (Sum.inl b)).getD (V.int 0)=V.int (if c=b then u else rK r b)
  by_cases e:c=b
  ·rw [if_pos e,jd (by rw [e])];rfl
  ·rw [if_neg e,je (fun z=>e (by injection z)),pO r b]
theorem o6:∀ (ps:List (Int×Int)) (b t:Int),(ps.map (·.1)).Nodup->gf (mZ ps) (Sum.inl b) (V.int (rK ps b+t))=mZ (fG ps b t)
 | [],b,t,_=>rfl
 | (c,u) :: r,b,t,nd=>by
  have nd':=List.nodup_cons.mp nd
  show gf ((Sum.inl c,V.int u) :: mZ r) (Sum.inl b) (V.int ((if c=b then u else rK r b)+t))=mZ (if c=b then (c,u+t) :: r else (c,u) :: fG r b t)
  by_cases e:c=b
  ·rw [if_pos e,if_pos e,zd (by rw [e]) (fun q hq z=>?_)]
   ·show _=(Sum.inl c,V.int (u+t)) :: mZ r
    rw [e]
   ·obtain⟨p,hp,rfl⟩:=List.mem_map.mp hq
    have z':p.1=b:=by injection z
    exact nd'.1 (List.mem_map.mpr ⟨p,hp,z'.trans e.symm⟩)
  ·rw [if_neg e,if_neg e,vN (fun z=>e (by injection z)),o6 r b t nd'.2]
   rfl
def iV:List (Int×Int)->Rat
 | []=>0
 | p :: r=>(p.2:Rat) / (p.1:Rat)+iV r
theorem C9 {a b c:Rat}:(a+b) / c=a / c+b / c:=by rw [Rat.div_def,Rat.div_def,Rat.div_def,Rat.add_mul]
theorem k9:∀ (ps:List (Int×Int)) (b t:Int),iV (fG ps b t)=iV ps+(t:Rat) / (b:Rat)
 | [],b,t=>by
  show ((0+t:Int):Rat) / (b:Rat)+0=0+(t:Rat) / (b:Rat)
  rw [Int.zero_add];grind
 | (c,u) :: r,b,t=>by
  show iV (if c=b then (c,u+t) :: r else (c,u) :: fG r b t)=(u:Rat) / (c:Rat)+iV r+(t:Rat) / (b:Rat)
  by_cases e:c=b
  ·rw [if_pos e]
   show ((u+t:Int):Rat) / (c:Rat)+iV r=_
   rw [Rat.intCast_add,C9,e]
   grind
  ·rw [if_neg e]
   show (u:Rat) / (c:Rat)+iV (fG r b t)=_
   rw [k9 r b t]
   grind
theorem jM:∀ (ps:List (Int×Int)) (p:Int×Int),iV (ps++[p])=iV ps+(p.2:Rat) / (p.1:Rat)
 | [],p=>by show (p.2:Rat) / (p.1:Rat)+0=0+_;grind
 | q :: r,p=>by
  show (q.2:Rat) / (q.1:Rat)+iV (r++[p])=(q.2:Rat) / (q.1:Rat)+iV r+_
  rw [jM r p];grind
structure ky (n i:Nat) (ps:List (Int×Int)):Prop where
 nd:(ps.map (·.1)).Nodup
 len:ps.length≤i
 bot:∀ p∈ps,0 < p.1/\p.1.natAbs < 2 ^ n
 top:∀ p∈ps,p.2.natAbs≤i * 2 ^ n
theorem jy:∀ (ps:List (Int×Int)) (b t:Int) (c:Int),c∈(fG ps b t).map (·.1)↔c∈ps.map (·.1)∨c=b
 | [],b,t,c=>by simp [fG]
 | (d,u) :: r,b,t,c=>by
  show c∈(if d=b then (d,u+t) :: r else (d,u) :: fG r b t).map (·.1)↔_
  by_cases e:d=b
  ·rw [if_pos e]
   constructor
   ·intro h;exact .inl h
   ·rintro (h | h)
    ·exact h
    ·exact List.mem_cons.mpr (.inl (h.trans e.symm))
  ·rw [if_neg e,List.map_cons,List.map_cons,List.mem_cons,List.mem_cons,jy r b t c]
   exact or_assoc.symm
theorem AQ:∀ (ps:List (Int×Int)) (b t:Int),(ps.map (·.1)).Nodup->((fG ps b t).map (·.1)).Nodup
 | [],b,t,_=>by simp [fG]
 | (d,u) :: r,b,t,nd=>by
  have nd':=List.nodup_cons.mp nd
  show ((if d=b then (d,u+t) :: r else (d,u) :: fG r b t).map (·.1)).Nodup
  by_cases e:d=b
  ·rw [if_pos e];exact nd
  ·rw [if_neg e,List.map_cons,List.nodup_cons]
   refine⟨fun z=>?_,AQ r b t nd'.2⟩
   rcases (jy r b t d).mp z with h | h
   ·exact nd'.1 h
   ·exact e h
theorem uU:∀ (ps:List (Int×Int)) (b t:Int),(fG ps b t).length≤ps.length+1
 | [],b,t=>Nat.le_refl 1
 | (d,u) :: r,b,t=>by
  show (if d=b then (d,u+t) :: r else (d,u) :: fG r b t).length≤_
  split
  ·exact Nat.le_succ _
  ·exact Nat.succ_le_succ (uU r b t)
theorem uT:∀ (ps:List (Int×Int)) (b t:Int) (M N:Nat),(∀ p∈ps,p.2.natAbs≤M)->t.natAbs≤N->∀ p∈fG ps b t,p.2.natAbs≤M+N
 | [],b,t,M,N,_,ht,p,hp=>by
  have e:p=(b,0+t):=by simpa [fG] using hp
  rw [e]
  show (0+t).natAbs≤M+N
  omega
 | (d,u) :: r,b,t,M,N,h,ht,p,hp=>by
  have hu:u.natAbs≤M:=h (d,u) List.mem_cons_self
  have hr:∀ q∈r,q.2.natAbs≤M:=fun q hq=>h q (List.mem_cons_of_mem _ hq)
  have hp':p∈(if d=b then (d,u+t) :: r else (d,u) :: fG r b t):=hp
  split at hp'
  ·rcases List.mem_cons.mp hp' with e | e
   ·rw [e]
    show (u+t).natAbs≤M+N
    omega
   ·have:=hr p e
    omega
  ·rcases List.mem_cons.mp hp' with e | e
   ·rw [e]
    show u.natAbs≤M+N
    omega
   ·exact uT r b t M N hr ht p e
theorem ky.add {n i:Nat} {ps:List (Int×Int)} (h:ky n i ps) {r:R} (w:Wf n r):ky n (i+1) (fG ps r.2 r.1) where
 nd:=AQ ps r.2 r.1 h.nd
 len:=Nat.le_trans (uU ps r.2 r.1) (Nat.succ_le_succ h.len)
 bot:=fun p hp=>by
  rcases (jy ps r.2 r.1 p.1).mp (List.mem_map.mpr ⟨p,hp,rfl⟩) with z | z
  ·obtain⟨q,hq,e⟩:=List.mem_map.mp z
   rw [← e]
   exact h.bot q hq
  ·rw [z];exact⟨w.pos,w.bot⟩
 top:=fun p hp=>by
  have:=uT ps r.2 r.1 (i * 2 ^ n) (2 ^ n) h.top (Nat.le_of_lt w.top) p hp
  rw [Nat.add_mul,Nat.one_mul]
  exact this
theorem ky.nil (n:Nat):ky n 0 []:=⟨List.nodup_nil,Nat.le_refl _,(fun _ h=>nomatch h),(fun _ h=>nomatch h)⟩
theorem ky.wf {n i:Nat} {ps:List (Int×Int)} (h:ky n i ps) (hi:i≤255) {p:Int×Int} (hp:p∈ps):Wf (n+8) (eG p.2 p.1):=by
 refine F6 (h.bot p hp).1 ?_ (Nat.lt_of_lt_of_le (h.bot p hp).2 (Nat.pow_le_pow_right (by decide) (by omega)))
 have a:=h.top p hp
 have b:i * 2 ^ n≤255 * 2 ^ n:=Nat.mul_le_mul_right _ hi
 have c:0 < 2 ^ n:=Nat.pow_pos (by decide)
 rw [Nat.pow_add]
 omega
def iU:List R->Rat
 | []=>0
 | r :: t=>val r+iU t
theorem jK:∀ (rs:List R) (r:R),iU (rs++[r])=iU rs+val r
 | [],r=>by show val r+0=0+val r;grind
 | q :: t,r=>by show val q+iU (t++[r])=val q+iU t+val r;rw [jK t r];grind
theorem p8:∀ (rs:List R) (acc:R),iC acc->(∀ r∈rs,iC r)->iC (rs.foldl bM acc)/\val (rs.foldl bM acc)=val acc+iU rs
 | [],acc,ha,_=>⟨ha,by show val acc=val acc+0;grind⟩
 | r :: t,acc,ha,h=>by
  have hr:=h r List.mem_cons_self
  obtain⟨a,b⟩:=p8 t (bM acc r) (zi ha hr) fun q hq=>h q (List.mem_cons_of_mem _ hq)
  refine⟨a,?_⟩
  rw [List.foldl_cons,b,jc ha.pos hr.pos]
  show val acc+val r+iU t=val acc+(val r+iU t)
  grind
theorem f9:val (0,1)=0:=by decide +kernel
theorem si:iC (0,1):=⟨by decide,by decide⟩
theorem kB {rs:List R} (h:∀ r∈rs,iC r):iC (eW rs)/\val (eW rs)=iU rs:=by
 obtain⟨a,b⟩:=p8 rs (0,1) si h
 refine⟨a,b.trans ?_⟩
 rw [f9];grind
theorem xA {rs:List R} {x:R} (h:∀ r∈rs,iC r) (hx:iC x) (e:val x=iU rs):x=eW rs:=
 eN hx (kB h).1 (e.trans (kB h).2.symm)
theorem Wf.red {n:Nat} {r:R} (h:Wf n r):iC r:=⟨h.pos,h.cop⟩
section
set_option autoImplicit true
set_option relaxedAutoImplicit true
theorem zb   : QE X (.Dict [] [] pos) xo:=⟨zG ⟩
theorem zc  (hu:X.A.units+1 < cLine) (ho:QE X o td) (he:QE X e ty) (hf:QE X f tx) (m:M2 X o "get" apos e f cpos):QE X (.Call (.Attribute o "get" apos) [e,f] [] cpos) (xp td ty tx):=⟨zH hu ho.p he.p hf.p m⟩
theorem BP  (hu:X.A.units+1 < cLine) (ho:QE X o td) (hi:QE X i ty) (hv:QE X value tv) (hs:swapsWith value (some (.Subscript o i pos')) pos.line X.env=pure false):QS X (.Assign [.Subscript o i pos'] value pos) (Dy td ty tv):=⟨B0 hu ho.p hi.p hv.p hs⟩
theorem y6  {X:Cx} {elts:List Expr} {x1} {tp apos pos:Pos} {o:Expr} {td:TE} (ho:QE X o td) (hb:attributeBase o "items" X.env (eval o X.env)=eval o X.env:=by rfl) (hl:(apos.endLine == pos.line)=true:=by rfl):QI X (.Tuple elts x1 tp) (.Call (.Attribute o "items" apos) [] [] pos) (An td):=⟨zp ho.p hb hl⟩
end
end B
namespace B
abbrev Pl:=Nat×Nat
def bO (p:Pl):Int:=(p.2:Int) - p.1+1
def tW (p q:Pl):Prop:=p.1 < q.1∨(p.1=q.1/\q.2≤p.2)
structure pZ (S:Pl->Prop) (L:Pl->Int) (p:Pl):Prop where
 inn:S p
 all:∀ q,S q->L q * bO p < L p * bO q∨(L q * bO p=L p * bO q/\tW p q)
def ir (n:Nat) (p:Pl):Prop:=p.1≤p.2/\p.2 < n
theorem ir.pos {n:Nat} {p:Pl} (h:ir n p):0 < bO p:=by unfold bO;have:=h.1;omega
theorem pZ.scale {S:Pl->Prop} {L M:Pl->Int} {p:Pl} {a b:Int} (ha:0 < a) (hb:0 < b) (e:∀ q,M q * a=L q * b) (h:pZ S L p):pZ S M p:=by
 refine⟨h.inn,fun q hq=>?_⟩
 have k1:(M q * bO p) * a=(L q * bO p) * b:=by rw [Int.mul_right_comm,e,Int.mul_right_comm]
 have k2:(M p * bO q) * a=(L p * bO q) * b:=by rw [Int.mul_right_comm,e,Int.mul_right_comm]
 rcases h.all q hq with z | ⟨z,o⟩
 ·refine .inl (Int.lt_of_mul_lt_mul_right (a:=a) ?_ (Int.le_of_lt ha))
  rw [k1,k2]
  exact Int.mul_lt_mul_of_pos_right z hb
 ·refine .inr ⟨Int.eq_of_mul_eq_mul_right (Int.ne_of_gt ha) ?_,o⟩
  rw [k1,k2,z]
theorem CO {l p q lr lp lq:Int} (hr:0 < lr) (hp:0 < lp) (hq:0 < lq) (h1:l * lp≤p * lr) (h2:p * lq < q * lp):l * lq < q * lr:=by
 refine Int.lt_of_mul_lt_mul_right (a:=lp) ?_ (Int.le_of_lt hp)
 have a1:l * lq * lp=l * lp * lq:=Int.mul_right_comm _ _ _
 have a2:q * lr * lp=q * lp * lr:=Int.mul_right_comm _ _ _
 have b1:l * lp * lq≤p * lr * lq:=Int.mul_le_mul_of_nonneg_right h1 (Int.le_of_lt hq)
 have b2:p * lr * lq=p * lq * lr:=Int.mul_right_comm _ _ _
 have b3:p * lq * lr < q * lp * lr:=Int.mul_lt_mul_of_pos_right h2 hr
 omega
theorem pZ.more {n:Nat} {S S':Pl->Prop} {L:Pl->Int} {p q:Pl} (h:pZ S L p) (st:∀ r,S' r->ir n r) (e:∀ r,S' r↔S r∨r=q) (gt:L p * bO q < L q * bO p):pZ S' L q:=by
 have iq:S' q:=(e q).mpr (.inr rfl)
 have ip:S' p:=(e p).mpr (.inl h.inn)
 refine⟨iq,fun r hr=>?_⟩
 rcases (e r).mp hr with z | z
 ·refine .inl (CO (st r hr).pos (st p ip).pos (st q iq).pos ?_ gt)
  rcases h.all r z with z | ⟨z,_⟩
  ·exact Int.le_of_lt z
  ·exact Int.le_of_eq z
 ·subst z
  exact .inr ⟨rfl,.inr ⟨rfl,Nat.le_refl _⟩⟩
theorem pZ.stay {S S':Pl->Prop} {L:Pl->Int} {p q:Pl} (h:pZ S L p) (e:∀ r,S' r↔S r∨r=q) (le:L q * bO p≤L p * bO q) (o:tW p q∨L q * bO p≠L p * bO q):pZ S' L p:=by
 refine⟨(e p).mpr (.inl h.inn),fun r hr=>?_⟩
 rcases (e r).mp hr with z | z
 ·exact h.all r z
 ·subst z
  by_cases c:L r * bO p=L p * bO r
  ·rcases o with o | o
   ·exact .inr ⟨c,o⟩
   ·exact absurd c o
  ·exact .inl (by omega)
theorem pZ.congr {S S':Pl->Prop} {L:Pl->Int} {p:Pl} (h:pZ S L p) (e:∀ r,S' r↔S r):pZ S' L p:=⟨(e p).mpr h.inn,fun q hq=>h.all q ((e q).mp hq)⟩
def fR (n b e:Nat) (p:Pl):Prop:=ir n p/\(p.1 < b∨(p.1=b/\e≤p.2))
def Mm (n b e:Nat) (p:Pl):Prop:=ir n p/\(p.1 < b∨(p.1=b/\p.2 < e))
theorem rR {n b e:Nat} (h1:b≤e) (h2:e < n) (r:Pl):fR n b e r↔fR n b (e+1) r∨r=(b,e):=by
 obtain⟨x,y⟩:=r
 unfold fR ir
 rw [Prod.mk.injEq]
 show (x≤y/\y < n)/\_↔((x≤y/\y < n)/\_)∨_
 simp only
 omega
theorem rS {n b:Nat} (r:Pl):fR n (b+1) n r↔fR n b b r:=by
 obtain⟨x,y⟩:=r
 unfold fR ir
 simp only
 omega
theorem vG {n:Nat} (r:Pl):ir n r↔fR n n n r:=by
 obtain⟨x,y⟩:=r
 unfold fR ir
 simp only
 omega
abbrev Wn:=Option (Nat×Nat)
def gr (b e:Nat):Wn->Bool
 | none=>false
 | some (x,y)=>decide (b≤x) && decide (y≤e)
def cc (ws:List Wn) (p:Pl):List Nat:=(List.range ws.length).filter fun i=>gr p.1 p.2 (ws.getD i none)
def cY (ws:List Wn) (A:Nat->Int) (p:Pl):Int:=((cc ws p).map A).sum
theorem iW {A:Nat->Int} (h:∀ i,0≤A i):∀ l:List Nat,0≤(l.map A).sum
 | []=>Int.le_refl _
 | x :: l=>by
  rw [List.map_cons,List.sum_cons]
  have:=h x
  have:=iW h l
  omega
theorem nv {A C:Nat->Int} {a b:Int}:∀ l:List Nat,(∀ i∈l,C i * a=A i * b)->(l.map C).sum * a=(l.map A).sum * b
 | [],_=>by simp
 | x :: l,h=>by
  rw [List.map_cons,List.sum_cons,List.map_cons,List.sum_cons,Int.add_mul,Int.add_mul,h x List.mem_cons_self,nv l fun i hi=>h i (List.mem_cons_of_mem _ hi)]
end B
namespace B
open PySem PySem.Spec L2 PyProof.Rows
def pB (ns:List Int):List Int:=ns.foldl step_dedup []
def LN (K:PySem.W.Frag):List V->Hp->VK->Prop:=fun xs H Q=>∃ p ns,xs=[.ref p]/\aU K H p (ns.map V.int)/\ns.length≤1000/\∀ l,H l=none->Q (.ref l) (aG H l (.set (fun k=>(pB ns).any (· == k)) (pB ns).length))
def LP:List V->Hp->VK->Prop:=fun xs H Q=>∃ p S n,xs=[.ref p]/\H p=some (.set S n)/\Q (.int n) H
def K2 (xs:Array Nat):Prop:=∀ i j (_:i < j) (hj:j < xs.size),xs[i]'(by omega) < xs[j]
def KZ (t:SetTable):Prop:=t.plain=true->t.dummies=#[]/\K2 t.place
section
variable {prog:Program} {w:World} {A:Around} {E:Value->Shared->Prop} {s:Shared}
def J7:Value->Int
 | .int n _=>n
 | _=>0
def GN (w:World) (h:Heap) (a:Addr) (ks:List Int):Prop:=∃ o es ep t,h.get? a=some o/\o.ExactSet/\o.data=.set es ep t/\(∀ e∈es.toList,∃ n u,e=(hashInt n,Value.int n u))∧
 (es.toList.map fun e=>J7 e.2).Perm ks/\t.fits es.size=true/\KZ t/\t.led=!w.params.followText "set-order"
end
section
variable {prog:Program} {w:World} {A:Around} {E:Value->Shared->Prop} {s:Shared}
def G4 (w:World):Obj:={ cls:=.type "set", dict:=none,data:=.set #[] 0 (.fresh 0 0 (!w.params.followText "set-order")) }
variable {R:Result->Shared->Prop} {I:Addr} {fp wr:List Addr} {G:Array GenState->Array GenState->Prop} {n:Nat} {P:Nat->Value->Prop} {St:Nat->Shared->Prop}
end
section
variable {prog:Program} {w:World} {A:Around} {E:Value->Shared->Prop} {s:Shared}
end
namespace FS
end FS
section
variable {prog:Program} {w:World} {A:Around} {E:Value->Shared->Prop} {s:Shared}
def MU (first:Value) (i:Nat) (a:Addr) (n ep:Nat):Obj:={ cls:=.type "set_iterator", data:=.fields #[first,.int i 0,.ref a,.int n 0,.int ep 0] }
end
end B
namespace B
open PySem PySem.Spec L2 PyProof.Rows
section
variable {prog:Program} {w:World} {A:Around} {E:Value->Shared->Prop} {s:Shared}
end
section
variable {prog:Program} {w:World} {A:Around} {E:Value->Shared->Prop} {s:Shared}
def KY (prog:Program) (w:World) (a:Addr) (ks:List Int) (s:Shared) (It:Addr) (s1:Shared):Prop:=
 ∃ (fp:List Addr) (items:Array Value) (St:Nat->Shared->Prop),(∀ A':Around,A'.handled=none->WalksS prog w A' It fp [It] (fun a b=>b=a) items.size (fun i v=>items[i]?=some v) St)/\St 0 s1/\It∈fp/\(∀ b∈fp,b < s1.heap.objs.size/\(b=a∨s.heap.objs.size≤b))∧
  s.heap.objs.size≤It/\∃ ms,IntsAre items.toList ms/\ms.Perm ks
def LG (t:SetTable):Nat->Nat
 | 0=>0
 | k+1=>t.place.getD k 0+1
end
def LS (K:PySem.W.Frag):V->List V->Hp->VK->Prop:=fun x vs H Q=>∃ l b xs zs,x=.ref l/\vs=[.ref b]/\H l=some (.lst xs)/\bt K H b zs/\xs.length+zs.length≤1000/\Q .non (aG H l (.lst (xs++zs)))
def LL (K:PySem.W.Frag):List V->Hp->VK->Prop:=fun xs H Q=>∃ p ns,xs=[.ref p]/\(aU K H p (ns.map V.int)∨bt K H p (ns.map V.int))/\ns.length < 64/\∀ (l:Addr) (ms:List Int),ms.Perm ns->ms.Pairwise (·≤·)->H l=none->Q (.ref l) (aG H l (.lst (ms.map V.int)))
section
variable {prog:Program} {w:World} {A:Around} {E:Value->Shared->Prop} {s:Shared}
end
def HM (w:World) (a:Addr) (ks:List Int):HO:=.ext fun h=>GN w h a ks
def LM (w:World) (K:PySem.W.Frag):List V->Hp->VK->Prop:=fun xs H Q=>∃ p ns,xs=[.ref p]/\(aU K H p (ns.map V.int)∨bt K H p (ns.map V.int))/\ns.length≤1000/\∀ l,H l=none->Q (.ref l) (aG H l (HM w l (pB ns)))
def Ki (w:World):List V->Hp->VK->Prop:=fun xs H Q=>∃ p ks,xs=[.ref p]/\H p=some (HM w p ks)/\ks.length < 64/\∀ (l:Addr) (ms:List Int),ms.Perm ks->ms.Pairwise (·≤·)->H l=none->Q (.ref l) (aG H l (.lst (ms.map V.int)))
def Lp (ta:TA):TE:=fun σ H Q=>ta σ H fun vs H1=>∃ i j:Int,vs=[.int i,.int j]/\∀ p,H1 p=none->Q (.ref p) (aG H1 p (.rng i j))
def JT:R2:=fun x y H Q=>∃ (i:Int) (p:Addr) (lo hi:Int),x=.int i/\y=.ref p/\H p=some (.rng lo hi)/\Q (.bl (!(decide (lo≤i) && decide (i < hi)))) H
section
set_option autoImplicit true
set_option relaxedAutoImplicit true
end
def Jb (lo n:Nat):List Nat:=(List.range n).map fun i=>lo+i
def M5:List V->Hp->VK->Prop:=fun xs H Q=>∃ p,∃ lo n:Nat,xs=[.ref p]/\H p=some (.rng (lo:Int) ((lo+n:Nat):Int))/\lo+n≤1000/\∀ l,H l=none->Q (.ref l) (aG H l (.lst ((Jb lo n).map fun i:Nat=>V.int i)))
theorem nW:∀ {bs:List Bool} {us:List Value},aX (bs.map V.bl) us->∀ {i:Nat} {v:Value},us[i]?=some v->v=.bool (bs.getD i false)
 | [],_,.nil,i,v,e=>by cases e
 | b :: bs,_,.cons r t,0,v,e=>by
  rw [List.getElem?_cons_zero] at e
  cases e
  exact (show _=Value.bool b from r)
 | b :: bs,_,.cons r t,i+1,v,e=>by
  rw [List.getElem?_cons_succ] at e
  exact nW t e
theorem n8:∀ (bs:List Bool),(List.range bs.length).any (fun i=>bs.getD i false)=bs.any id
 | []=>rfl
 | b :: bs=>by
  rw [List.length_cons,List.range_succ_eq_map,List.any_cons,List.any_map,List.any_cons]
  have:=n8 bs
  show (b || (List.range bs.length).any (fun i=>bs.getD i false))=(id b || bs.any id)
  rw [this];rfl
theorem wG {X:Cx} (hc:X.calm=true):dD X (.builtin "any") (fun xs H Q=>∃ (p:Addr) (bs:List Bool),xs=[.ref p]/\aU X.K H p (bs.map V.bl)/\Q (.bl (bs.any id)) H):=by
 intro pins s σ H xs us Q I r h
 obtain⟨p,bs,rfl,hq,q⟩:=h
 obtain⟨u,rfl,rx⟩:=gH r
 cases rx
 obtain⟨its,rv,pl,hz⟩:=I.list hq
 have ne:p≠s.heap.objs.size:=by
  obtain⟨o,ho,_⟩:=pl.isList
  exact Nat.ne_of_lt (Heap.lt_size ho)
 have hlen:its.toArray.size=bs.length:=by rw [List.size_toArray,← rv.length,List.length_map]
 refine call_any_walk (wpAny_pyIter_list pl.isList ?_)
 refine⟨_,_,_,_,_,_,fun i=>bs.getD i false,rfl,Walks.list (A:=X.A.in1) (I.ok.hd hc) _ p ne its.toArray,⟨⟨_,Heap.get?_push_size _ rfl,rfl,rfl⟩,pl.isList.push _⟩,fun i v s' Q' E' hv hQ=>?_,fun h' tk hk=>?_⟩
 ·have e:=nW rv (i:=i) (v:=v) (by simpa using hv)
  subst e
  exact wpAny_truthy_bool hQ
 ·rw [hlen,n8]
  refine⟨.bl _,H,I.kept (t':=tk) fun b o e=>hk b o (fun z=>?_) (Heap.get?_push_of_some _ e),rfl,q⟩
  rw [List.mem_singleton.mp z] at e
  exact absurd (Heap.lt_size e) (Nat.lt_irrefl _)
def LD (te:TE) (i:Nat):TS:=fun D σ H=>te σ H fun x H1=>∃ σ',σ.set i (some x)=σ'/\D.nx σ' H1
section
variable {prog:Program} {w:World} {A:Around} {E:Value->Shared->Prop} {s:Shared}
end
section
variable {X:Cx} {pins:List (Addr×Obj)} {σ:L2.St} {H:Hp} {A:Around} {E:Value->Shared->Prop} {a kS:Addr} {vs:List Value} {kz:List Int} {f:Value} {e1:Nat}
def J3 (X:Cx) (σ:L2.St) (H:Hp) (A:Around) (f:Value) (vs:List Value) (kz:List Int):Prop:=
 ∀ (i:Nat) (v:Value) (k:Int),vs[i]?=some v->kz[i]?=some k->∀ (pins:List (Addr×Obj)) (s:Shared),Inv X pins σ H s→
  wpAny (model X.prog X.w) A (call f [v]) (fun u s2=>(∃ t,u=.int k t)/\Inv X pins σ H s2) (fun _ _=>False) s
end
def ER (sp:Sp) (key:Nat->Int):List V->Hp->VK->Prop:=fun xs H Q=>∃ (p:Addr) (n:Nat),xs=[.ref p]/\H p=some (.rng 0 n)/\n < 64/\(∀ i < n,∀ (Qk:VK),Qk (.int (key i)) H->sp [.int (i:Nat)] H Qk fun _ _ _=>False)∧
 ∀ (l:Addr) (ms:List Nat),ms.Perm (List.range n)->ms.Pairwise (fun a b=>key a≤key b)->H l=none->Q (.ref l) (aG H l (.lst (ms.map fun i:Nat=>V.int i)))
def Ka (sp:Sp) (key:Nat->Int) (t:TA):TE:=fun σ H Q=>t σ H fun vs H1=>ER sp key vs H1 Q
def Ih:V->List V->Hp->VK->Prop:=fun x vs H Q=>∃ (l:Addr) (ns:List Nat) (j k:Nat),x=.ref l/\vs=[.int (k:Int)]/\H l=some (.lst (ns.map fun i:Nat=>V.int i))/\ns[j]?=some k/\(∀ m,m < j->ns[m]?≠some k)/\Q .non (aG H l (.lst ((ns.eraseIdx j).map fun i:Nat=>V.int i)))
def KB (k:Int):Value->Bool
 | .int i _=>i == k
 | _=>false
theorem Cy {X:Cx}:Mp X "list.remove" Ih:=by
 intro pins s σ H x vs v us Q I rx rv h
 obtain⟨l,ns,j,k,rfl,rfl,hH,hj,hno,q⟩:=h
 cases rx
 obtain⟨u,rfl,ru⟩:=rv.one
 obtain⟨t,rfl⟩:=ru
 obtain⟨z,its,n,r,hl,e⟩:=I.lstM hH
 rw [List.length_map] at z hl
 have at_:∀ (m:Nat) (w:Value),its[m]?=some w->∃ i t',ns[m]?=some i/\w=.int (i:Int) t':=fun m w hw=>by
  have hm:m < its.length:=(List.getElem?_eq_some_iff.mp hw).1
  obtain⟨i,hi⟩:∃ i,ns[m]?=some i:=⟨_,List.getElem?_eq_getElem (by omega)⟩
  obtain⟨w',hw',t',e'⟩:=r.get (show (ns.map fun i:Nat=>V.int i)[m]?=some (V.int i) by rw [List.getElem?_map,hi];rfl)
  rw [hw] at hw'
  cases hw'
  exact⟨i,t',hi,e'⟩
 have jl:j < ns.length:=(List.getElem?_eq_some_iff.mp hj).1
 have mem:∀ y,y∈its.toArray->MeetsSeq.EqGives y (.int (k:Int) t) (KB k y):=fun y hy=>by
  obtain⟨m,hm⟩:=List.getElem?_of_mem (by simpa using hy)
  obtain⟨i,t',_,rfl⟩:=at_ m y hm
  exact MeetsSeq.EqGives.int _ _ _ _
 have val:∀ m (hm:m < its.toArray.size) (i:Nat),ns[m]?=some i->KB k its.toArray[m]=((i:Int) == (k:Int)):=fun m hm i hi=>by
  have e1:its[m]?=some (its.toArray[m]):=by simp only [List.getElem_toArray];exact List.getElem?_eq_getElem (by simpa using hm)
  obtain⟨i',t',h1,h2⟩:=at_ m _ e1
  rw [hi] at h1
  cases h1
  rw [h2]
  rfl
 refine call_meets F.slot_list_remove ⟨_,e,rfl⟩ F.entry_list_remove (F.args_list_remove_2 _ _)
  (MeetsSeq.list_remove l its.toArray n _ (KB k) mem j (by simpa [← hl] using jl) (by rw [val j _ k hj];simp) (fun m hm lt=>?_) (by rw [List.size_toArray];omega)) ⟨e,?_⟩
 ·obtain⟨i,hi⟩:∃ i,ns[m]?=some i:=⟨_,List.getElem?_eq_getElem (by omega)⟩
  rw [val m hm i hi]
  refine beq_eq_false_iff_ne.mpr fun z=>hno m lt ?_
  rw [hi]
  exact congrArg some (by omega)
 refine⟨.non,_,I.lset (its':=its.eraseIdx j) hH e ?_ ?_ ?_,rfl,q⟩
 ·show its.toArray.eraseIdxIfInBounds j=(its.eraseIdx j).toArray
  rw [List.eraseIdxIfInBounds_toArray]
 ·have:=r.eraseIdx j
  have e2:∀ (l:List Nat) (j:Nat),(l.map fun i:Nat=>V.int i).eraseIdx j=(l.eraseIdx j).map fun i:Nat=>V.int i:=by
   intro l
   induction l with
   | nil=>intro j;rfl
   | cons a l ih=>
    intro j
    cases j with
    | zero=>rfl
    | succ j=>simp only [List.map_cons,List.eraseIdx_cons_succ,ih]
  rw [e2] at this
  exact this
 ·rw [List.length_map]
  have:=List.length_eraseIdx_le ns j
  omega
abbrev KS (X:Cx) (N':List Str) (scope:Scope) (y:Str) (cl:List (Str×Addr)) (C:Addr) (fp:List Addr) (pins:List (Addr×Obj)) (s:Shared) (H:Hp):Cx:=nT X N' scope (fun z=>z == y) ((y,C+1) :: cl) C fp pins s H
structure tV (X:Cx) (scope:Scope) (y:Str) (cl:List (Str×Addr)):Prop where
 has:∀ x,((compEnvC scope cl 0 X.env).kindOf x=some .cell∨(compEnvC scope cl 0 X.env).kindOf x=some .free)->x=y∨∃ c,cl.lookup x=some c
 up:∀ x c,cl.lookup x=some c->X.env.cells.lookup x=some c
 no:cl.lookup y=none
theorem wB {X:Cx} {scope:Scope} {y:Str} {cl:List (Str×Addr)} (h1:((relabel scope X.env).names.all fun z=>!(z.2 == .cell || z.2 == .free) || (z.1 == y) || (cl.lookup z.1).isSome)=true) (h2:iu X cl) (h3:cl.lookup y=none):tV X scope y cl:=by
 refine⟨fun x h=>?_,fun x c e=>h2.mem _ (mem_of_lookup e),h3⟩
 have h4:=List.all_eq_true.mp h1
 have key:∀ k:NameKind,(k=.cell∨k=.free)->(relabel scope X.env).names.lookup x=some k->x=y∨∃ c,cl.lookup x=some c:=fun k hk e=>by
  have q:=h4 _ (mem_of_lookup e)
  have z:(k == NameKind.cell || k == NameKind.free)=true:=by rcases hk with rfl | rfl <;> rfl
  simp only [z,Bool.not_true,Bool.false_or,Bool.or_eq_true] at q
  rcases q with q | q
  ·exact .inl (eq_of_beq q)
  ·exact .inr (Option.isSome_iff_exists.mp q)
 rcases h with h | h
 ·exact key _ (.inl rfl) h
 ·exact key _ (.inr rfl) h
theorem qQ {y x:Str} {a c:Addr} {cl:List (Str×Addr)} (h:((y,a) :: cl).lookup x=some c):(x=y/\c=a)∨(x≠y/\cl.lookup x=some c):=by
 rw [List.lookup_cons] at h
 cases e:x == y with
 | true=>
  rw [e] at h
  injection h with h
  exact .inl ⟨eq_of_beq e,h.symm⟩
 | false=>
  rw [e] at h
  refine .inr ⟨fun z=>?_,h⟩
  rw [z,beq_self_eq_true] at e
  cases e
theorem uD {y x:Str} {a c:Addr} {cl:List (Str×Addr)} (n:cl.lookup y=none) (h:cl.lookup x=some c):((y,a) :: cl).lookup x=some c:=by
 have ne:(x == y)=false:=by
  cases e:x == y with
  | true=>rw [eq_of_beq e,n] at h;cases h
  | false=>rfl
 rw [List.lookup_cons,ne]
 exact h
section
variable {M:Model} {A:Around} {E:Value->Shared->Prop} {s:Shared}
theorem Cu {scope:Scope} {globals:Addr} {cl:List (Str×Addr)} {qual:Str} {outer:Env} {y:Str} {Q:Env->Shared->Prop} (hs:∀ n:Nat,cellsFrom n scope.names cl=(y,n) :: cl) (hp:∀ h:Heap,pushCells h scope.names=h.push { cls:=.type "cell", data:=.cell none })
  (hQ:Q { scope,locals:=s.heap.objs.size,globals,cells:=(y,s.heap.objs.size+1) :: cl,qual,func:=none,code:=outer.code,frame:=outer.frame,builtins:=outer.builtins } { s with heap:=(s.heap.push { cls:=.type "dict", data:=.dict #[] }).push { cls:=.type "cell", data:=.cell none } }) :
  wpAny M A (newFunctionEnv scope globals cl [] qual none .none (some outer)) Q E s:=by
 simp only [newFunctionEnv,Option.isSome_some,if_true]
 refine wpAny_bind (wpAny_alloc (wpAny_bind (wpAny_layCells _ (fun name kind cells=>by cases hkc:kind == NameKind.cell <;> simp [hkc]) _ _ _ _ ?_)))
 rw [hs,hp]
 refine wpAny_bind (wpAny_pure (wpAny_pure ?_))
 rw [show ({ s with heap:=s.heap.push { cls:=.type "dict", data:=.dict #[] } }:Shared).heap.objs.size=s.heap.objs.size+1 from Heap.size_push ..]
 exact hQ
end
theorem Je {X:Cx} {scope:Scope} {y:Str} {cl:List (Str×Addr)} (hcf:∀ n:Nat,cellsFrom n scope.names cl=(y,n) :: cl) (hcp:∀ h:Heap,pushCells h scope.names=h.push { cls:=.type "cell", data:=.cell none }) (hkind:scope.kind=.function) (hcl:tV X scope y cl):mP X scope (fun z=>z == y) cl (fun C=>(y,C+1) :: cl) where
 fun_:=hkind
 cells:=fun C=>⟨fun x h=>by
  rcases hcl.has x h with z | ⟨c,z⟩
  ·exact⟨C+1,by rw [z,List.lookup_cons,beq_self_eq_true]⟩
  ·exact⟨c,uD hcl.no z⟩,fun x c e=>by
  rcases qQ e with ⟨h1,h2⟩ | ⟨_,h2⟩
  ·exact .inl ⟨by rw [h1];exact beq_self_eq_true y,h2⟩
  ·exact .inr (hcl.up x c h2),fun a b h1 h2=>(eq_of_beq h1).trans (eq_of_beq h2).symm,fun x c e=>uD hcl.no e,fun x c h e=>by
  rcases qQ e with ⟨_,h2⟩ | ⟨h1,_⟩
  ·rw [h2];exact Nat.le_succ C
  ·exact absurd (eq_of_beq h) h1⟩
 make:=fun {s Q} k=>Cu hcf hcp (k _ _ s.toks _ ((Heap.Ns.new s.heap (.type "dict")).keeps fun b o e=>Heap.get?_push_of_some { cls:=.type "cell", data:=.cell none } e)
  (fun _ _=>⟨_,by rw [← show (s.heap.push { cls:=.type "dict", data:=.dict #[] }).objs.size=s.heap.objs.size+1 from Heap.size_push ..];exact Heap.get?_push_size _ rfl,rfl⟩)
  (fun b o e=>Heap.get?_push_of_some _ (Heap.get?_push_of_some _ e)) rfl rfl)
section
variable {X:Cx} {N':List Str} {scope:Scope} {y:Str} {cl:List (Str×Addr)} {src:List (Option Nat)} {tg iter elt:Expr} {ifs:List Expr} {wi:TI} {g:TG} {tt:TT} {te:TE} {pos:Pos}
theorem yY {i:Nat} {x:Str} {pos' pos2:Pos} (hN:X.N.Nodup) (hi':X.N[i]?=some x) (hx:wX X.env.scope x) (hc:X.calm=true) (hi:QI X tg iter wi) (hg:∀ C fp pins s H,QG (KS X N' scope y cl C fp pins s H) tg g) (ht:∀ C fp pins s H,G7 (KS X N' scope y cl C fp pins s H) ifs tt) (he:∀ C fp pins s H,QE (KS X N' scope y cl C fp pins s H) elt te) (hfree:cH X scope cl N' src) (hclos:closureFor scope X.env=pure cl) (hcf:∀ n:Nat,cellsFrom n scope.names cl=(y,n) :: cl) (hcp:∀ h:Heap,pushCells h scope.names=h.push { cls:=.type "cell", data:=.cell none }) (hkind:scope.kind=.function) (hnames:∀ x∈scope.names,x.2=.local->scope.names.lookup x.1=some .local) (hcl:tV X scope y cl) (hs:∀ x,foldedSetIterable iter X.env x=pure x:=by intro _;rfl) (hsw:swapsWith (.ListComp elt [⟨tg,iter,ifs,0⟩] scope pos) (some (.Name x pos')) pos2.line X.env=pure true:=by rfl) (hf:X.fn x=true∨X.env.scope.names.lookup x=some .local:=by first | exact .inl rfl | exact .inr rfl | assumption):QS X (.Assign [.Name x pos'] (.ListComp elt [⟨tg,iter,ifs,0⟩] scope pos) pos2) (qg (k8 wi src g tt te) (ke i)):=⟨uv hN hi' hx hc hi.p (fun z0 z1 z2 z3 z4=>(hg z0 z1 z2 z3 z4).p) (fun z0 z1 z2 z3 z4=>(ht z0 z1 z2 z3 z4).p) (fun z0 z1 z2 z3 z4=>(he z0 z1 z2 z3 z4).p) hfree hclos (Je hcf hcp hkind hcl) hnames hs hsw hf⟩
theorem vM (hclos:closureFor scope X.env=pure cl) (hc:X.calm=true) (hi:QI X tg iter wi) (hg:∀ C fp pins s H,QG (CU X N' scope cl C fp pins s H) tg g) (ht:∀ C fp pins s H,G7 (CU X N' scope cl C fp pins s H) ifs tt) (he:∀ C fp pins s H,QE (CU X N' scope cl C fp pins s H) elt te) (hfree:cH X scope cl N' src) (hcell:∀ x∈scope.names,x.2≠.cell) (hkind:scope.kind=.function) (hnames:∀ x∈scope.names,x.2=.local->scope.names.lookup x.1=some .local) (hcl:jJ X scope cl) (hs:∀ x,foldedSetIterable iter X.env x=pure x:=by intro _;rfl):QE X (.ListComp elt [⟨tg,iter,ifs,0⟩] scope pos) (k8 wi src g tt te):=bZ hc hi hg ht he hfree hclos hcell hkind hnames hcl hs
theorem y3 {K:PySem.W.Frag} {l tg:Expr} {tl:TE} (hK:X.K=K) (hl:QE X l tl):QI X tg l (Am K tl):=by subst hK;exact dS hl
theorem Cm {K:PySem.W.Frag} {k:Nat} (hK:X.K=K) (hr:cW k X.A):gF X (compareOp .NotEq) (Ii K):=hK ▸ pA hr
theorem tz {X:Cx} {K:PySem.W.Frag} (hK:X.K=K) (hc:X.calm=true):dD X (.builtin "any") (fun xs H Q=>∃ p bs,xs=[V.ref p]/\aU K H p (List.map V.bl bs)/\Q (V.bl (bs.any id)) H):=by subst hK;exact wG hc
end
structure dN (K:PySem.W.Frag) (n:Str) (st:Stmt) (f:Addr) (d:FuncData):Prop where
 p:PySem.W.nsIn K mainGlobals n=some (some (.ref f))
 F:di K n n st f d
section
variable {K:PySem.W.Frag} {n:Str} {st:Stmt} {f:Addr} {d:FuncData}
theorem isF {oc:Value} {od an:Option Addr} {sl:Array (Option Value)} {kV dc pm cd ct:Value} (p:PySem.W.nsIn K mainGlobals n=some (some (.ref f)))
  (l:K.lookup f=some ⟨oc,od,.func (PySem.W.fnOf n n (dq st) (c7 st) (ax st) .none kV dc pm an cd ct),sl⟩) (c:PySem.W.codeIn K cd n=true) (k:PySem.W.keepIn K (.ref f)=true) :
  dN K n st f (PySem.W.fnOf n n (dq st) (c7 st) (ax st) .none kV dc pm an cd ct):=⟨p,As l c k⟩
abbrev BA (n:Str) (st:Stmt) (us:List Value) (ps:List Str):Prop:=∀ (kV dc pm:Value) (an:Option Addr) (cd ct:Value),bindArgs (PySem.W.fnOf n n (dq st) (c7 st) (ax st) .none kV dc pm an cd ct) ⟨us,[]⟩=pure (ps.zip us)
theorem dN.b1 {x:Str} (I:dN K n st f d) (h:∀ u,BA n st [u] [x]:=by exact fun _ _ _ _ _ _ _=>rfl):aL K d [x] []:=I.F.binds fun a b c e g i us hl=>match us,hl with | [u],_=>h u a b c e g i
theorem dN.b2 {x y:Str} (I:dN K n st f d) (h:∀ u v,BA n st [u,v] [x,y]:=by exact fun _ _ _ _ _ _ _ _=>rfl):aL K d [x,y] []:=I.F.binds fun a b c e g i us hl=>match us,hl with | [u,v],_=>h u v a b c e g i
theorem dN.b3 {x y z:Str} (I:dN K n st f d) (h:∀ u v w,BA n st [u,v,w] [x,y,z]:=by exact fun _ _ _ _ _ _ _ _ _=>rfl):aL K d [x,y,z] []:=I.F.binds fun a b c e g i us hl=>match us,hl with | [u,v,w],_=>h u v w a b c e g i
theorem dN.b5 {x y z t s:Str} (I:dN K n st f d) (h:∀ u v w r q,BA n st [u,v,w,r,q] [x,y,z,t,s]:=by exact fun _ _ _ _ _ _ _ _ _ _ _=>rfl):aL K d [x,y,z,t,s] []:=I.F.binds fun a b c e g i us hl=>match us,hl with | [u,v,w,r,q],_=>h u v w r q a b c e g i
end
theorem ag {X:Cx} {st:Stmt} {eh:List Stmt} {t u:TS} (h1:QS X st t) (h2:db X eh u):db X (st :: eh) (let Uq:=u;D7 t Uq):=yX h1 h2
def Jq (K:PySem.W.Frag) (a b:Addr):It:=
 ⟨fun i H=>∃ xs ys x y,aU K H a xs/\bt K H b ys/\xs[i]?=some x/\ys[i]?=some y,
  fun i H v H'=>∃ p x y,H p=none/\v=.ref p/\H'=aG H p (.tup [x,y])/\(∀ xs,aU K H a xs->xs[i]?=some x)/\∀ ys,bt K H b ys->ys[i]?=some y,
  fun i H=>∃ xs ys,aU K H a xs/\bt K H b ys/\(xs.length≤i∨ys.length≤i)⟩
def Me (z TI TO i1 i2 a b:Addr) (i:Nat) (h:Heap):Prop:=IsZip h z TI TO .none/\IsPair h TI (.ref i1) (.ref i2)/\(∃ u v,IsPair h TO u v)/\h.IsListIter i1 a i/\h.IsTupleIter i2 b i
abbrev Hi (h:Heap) (a:Addr):Heap:=h.push { cls:=.type "list_iterator", data:=.fields #[.ref a,.int 0 0] }
abbrev Hg (h:Heap) (a b:Addr):Heap:=(Hi h a).push { cls:=.type "tuple_iterator", data:=.fields #[.ref b,.int 0 0] }
abbrev He (h:Heap) (a b:Addr):Heap:=(Hg h a b).push { cls:=.type "tuple", data:=.seq #[.ref h.objs.size,.ref (Hi h a).objs.size] }
abbrev J4 (h:Heap) (a b:Addr):Heap:=(He h a b).push { cls:=.type "tuple", data:=.seq #[.none,.none] }
abbrev MC (h:Heap) (a b:Addr):Heap:=(J4 h a b).push { cls:=.type "zip", data:=.fields #[.none,.bool false,.bool false,.ref (Hg h a b).objs.size,.ref (He h a b).objs.size] }
def KD (K:PySem.W.Frag) (ta:TA):TI:=fun σ H R=>ta σ H fun vs H1=>∃ a b,vs=[.ref a,.ref b]/\(∃ xs,aU K H1 a xs)/\(∃ ys,bt K H1 b ys)/\R (Jq K a b) H1
def Jr (K:PySem.W.Frag) (a b:Addr):It:=
 ⟨fun i H=>∃ xs ys x y,aU K H a xs/\aU K H b ys/\xs[i]?=some x/\ys[i]?=some y,
  fun i H v H'=>∃ p x y,H p=none/\v=.ref p/\H'=aG H p (.tup [x,y])/\(∀ xs,aU K H a xs->xs[i]?=some x)/\∀ ys,aU K H b ys->ys[i]?=some y,
  fun i H=>∃ xs ys,aU K H a xs/\aU K H b ys/\(xs.length≤i∨ys.length≤i)⟩
def Mf (z TI TO i1 i2 a b:Addr) (i:Nat) (h:Heap):Prop:=IsZip h z TI TO .none/\IsPair h TI (.ref i1) (.ref i2)/\(∃ u v,IsPair h TO u v)/\h.IsListIter i1 a i/\h.IsListIter i2 b i
abbrev Hj (h:Heap) (a:Addr):Heap:=h.push { cls:=.type "list_iterator", data:=.fields #[.ref a,.int 0 0] }
abbrev Hh (h:Heap) (a b:Addr):Heap:=(Hj h a).push { cls:=.type "list_iterator", data:=.fields #[.ref b,.int 0 0] }
abbrev Hf (h:Heap) (a b:Addr):Heap:=(Hh h a b).push { cls:=.type "tuple", data:=.seq #[.ref h.objs.size,.ref (Hj h a).objs.size] }
abbrev J5 (h:Heap) (a b:Addr):Heap:=(Hf h a b).push { cls:=.type "tuple", data:=.seq #[.none,.none] }
abbrev MD (h:Heap) (a b:Addr):Heap:=(J5 h a b).push { cls:=.type "zip", data:=.fields #[.none,.bool false,.bool false,.ref (Hh h a b).objs.size,.ref (Hf h a b).objs.size] }
def KF (K:PySem.W.Frag) (ta:TA):TI:=fun σ H R=>ta σ H fun vs H1=>∃ a b,vs=[.ref a,.ref b]/\(∃ xs,aU K H1 a xs)/\(∃ ys,aU K H1 b ys)/\R (Jr K a b) H1
section
variable {prog:Program} {w:World} {A:Around} {E:Value->Shared->Prop}
end
section
variable {prog:Program} {w:World} {A:Around} {E:Value->Shared->Prop} {s:Shared}
end
structure Jl (K:PySem.W.Frag) (H:Hp) (ys:List V) (kvs:List (List cP×V)):Prop where
 len:ys.length=kvs.length
 row:∀ (i:Nat) (kv:List cP×V),kvs[i]?=some kv->∃ r b,ys[i]?=some (.ref r)/\bt K H r [.ref b,kv.2]/\H b=some (.tup (kv.1.map kV))
 nd:(kvs.map (·.1)).Nodup
def Kq (K:PySem.W.Frag):List V->Hp->VK->Prop:=fun vs H Q=>∃ (p:Addr) (ob:Obj) (ys:List V) (kvs:List (List cP×V)),vs=[.ref p]/\H p=some (.frz ob (.tup ys))/\ob.dict=none/\Jl K H ys kvs/\∀ l,H l=none->Q (.ref l) (aG H l (.dT kvs))
def LK (K:PySem.W.Frag):List V->Hp->VK->Prop:=fun vs H Q=>∃ (p:Addr) (ys:List V),vs=[.ref p]/\aU K H p ys/\∀ (l:Addr) (ob:Obj),H l=none->ob.dict=none->Q (.ref l) (aG H l (.frz ob (.tup ys)))
theorem wx {β:Type} {K:PySem.W.Frag} {J:It} {H:Hp} {D:Addr} {n:Nat} {P₀:Nat->V->Hp->Prop} {P:Hp->V->β->Prop} (wk:DT J H n P₀) (f:Nat->β) {src:List (Option Nat)} {σ:L2.St} {g:TG} {tt:TT} {te:TE} {Q:Hp->Prop}
  (mono:∀ H H' v d,aN K H H'->P H v d->P H' v d) (hD:H D=none) (hn:n≤1000)
  (turn:∀ (i:Nat) (x:V) (H':Hp),i < n->aB H H'->P₀ i x H'->∀ (R:VK) (E:Hp->Prop),(∀ v H'',aB H' H''->P H'' v (f i)->R v H'')→
   g x (cZ src σ) H' fun σ2 H2=>iz (cZ src σ) σ2/\tt σ2 H2 fun ok H3=>if ok=true then te σ2 H3 R else E H3)
  (fin:∀ H' ys,aB H H'->H' D=some (.lst ys)->cn (P H') ys ((List.range n).map f)->Q H') :
  JD J D H src σ g tt te Q:=by
 refine⟨fun i m ys H'=>i≤n/\m=n - i/\H' D=some (.lst ys)/\aB H H'/\cn (P H') ys ((List.range i).map f),⟨_,Nat.zero_le _,rfl,ai,ap hD _,.nil⟩,?_⟩
 rintro i m ys H1 ⟨hi,rfl,d1,s1,al1⟩
 by_cases hix:i < n
 ·refine .inr ⟨wk.go i H1 hix s1,fun x H2 y=>?_⟩
  obtain⟨s2,p⟩:=wk.yld i H1 x H2 hix s1 y
  refine turn i x H2 hix (s1.trans s2) p _ _ fun v H3 s3 p3=>?_
  have d3:H3 D=some (.lst ys):=s3 _ _ (s2 _ _ d1)
  have tm:aN K H1 (aG H3 D (.lst (ys++[v]))):=(aN.same (s2.trans s3)).trans (aN.up d3 _)
  refine⟨d3,aY (by rw [al1.len,List.length_map,List.length_range];omega),n - (i+1),by omega,hix,rfl,ai,fun b o q=>?_,?_⟩
  ·rw [az (aK q hD)]
   exact s3 _ _ (s2 _ _ (s1 _ _ q))
  ·rw [List.range_succ,List.map_append]
   exact (al1.mono fun v d p=>mono _ _ _ _ tm p).snoc (mono _ _ _ _ (aN.up d3 _) p3)
 ·have e:i=n:=by omega
  subst e
  exact .inl ⟨wk.stop H1 s1,fin H1 ys s1 d1 al1⟩
section
variable {X:Cx} {K:PySem.W.Frag}
end
section
set_option autoImplicit true
set_option relaxedAutoImplicit true
theorem cV  (he:QE X e ta) (hb:attributeBase e f X.env (eval e X.env)=eval e X.env):QE X (.Attribute e f pos) (Hv X.K ta f):=⟨Fo he.p hb⟩
theorem oZ  (ha:QE X o ta) (hv:QE X value tv) (hs:swapsWith value (some (.Attribute o f pos')) pos.line X.env=pure false):QS X (.Assign [.Attribute o f pos'] value pos) (HS X.K ta tv f):=⟨E9 ha.p hv.p hs⟩
theorem vJ  {op:Operator} {rd:V->V->Hp->VK->Prop} (ha:QE X o ta) (hv:QE X value tv) (hop:GO X op rd):QS X (.AugAssign (.Attribute o f tpos) op value pos) (uo X.K ta tv rd f):=⟨vO ha.p hv.p hop⟩
theorem BQ  {pl:Sem Bool} (he:QE X o ta) (c:tT X.K C) (hm:mG X.K C m f) (F:bo X.prog X.w X.K X.mg X.base CX k f fd ps sp) (hr:cW k X.A) (hb:aL X.K fd ps ds) (hd:aX dvs ds) (hx:fi CX X E) (ha:QA X (e :: es) t) (hst:starEach (e :: es) X.env=(false,eval e X.env) :: starEach es X.env:=by rfl) (hpl:(backTo pos (starEach es X.env)).any (·.1)=false:=by rfl) (ht:eval (.Call (.Attribute o m apos) (e :: es) [] pos) X.env=(do
   let ov ← eval o X.env
   standAt apos.atName
   let (f,first) ← holding [ov] (getMethod ov m pl)
   callWith pos f first (backTo pos (starEach (e :: es) X.env)) (backToKw pos (keywordEach [] X.env))):=by rfl):QE X (.Call (.Attribute o m apos) (e :: es) [] pos) (ue C m sp dvs E ta t):=⟨Cb he.p c hm F hr hb hd hx ha.p hst hpl ht⟩
theorem d0  {pl:Sem Bool} (he:QE X o ta) (c:tT X.K C) (hm:mG X.K C m f) (F:bo X.prog X.w X.K X.mg X.base CX k f fd ps sp) (hr:cW k X.A) (hb:aL X.K fd ps ds) (hd:aX dvs ds) (hx:fi CX X E) (ht:eval (.Call (.Attribute o m apos) [] [] pos) X.env=(do
   let ov ← eval o X.env
   standAt apos.atName
   let (f,first) ← holding [ov] (getMethod ov m pl)
   callWith pos f first (backTo pos (starEach [] X.env)) (backToKw pos (keywordEach [] X.env))):=by rfl):QE X (.Call (.Attribute o m apos) [] [] pos) (ue C m sp dvs E ta vx):=⟨zx he.p c hm F hr hb hd hx ht⟩
theorem y9  (M:Mk X.K C f) (F:bo X.prog X.w X.K X.mg X.base CX k f fd ps sp) (hr:cW (k+1) X.A) (hg:Gl X x) (hm:X.mg x=some (.ref C)) (hb:aL X.K fd ps ds) (hd:aX dvs ds) (hx:fi CX X E) (hdb:(x == ("__debug__" : Str))=false:=by decide):QE X (.Call (.Name x p) [] [] pos) (Do C sp dvs E vx):=⟨zy M F hr hg hm hb hd hx hdb⟩
end
structure wN (K:PySem.W.Frag) (C:Addr) (n q:Str) (st:Stmt) (f:Addr) (d:FuncData):Prop where
 p:PySem.W.findIn K (.ref C) n=some (some (.ref f))
 fn:PySem.W.isFn K (.ref f)=true
 F:di K n q st f d
section
variable {K:PySem.W.Frag} {C:Addr} {n q:Str} {st:Stmt} {f:Addr} {d:FuncData}
theorem isM {oc:Value} {od an:Option Addr} {sl:Array (Option Value)} {kV dc pm cd ct:Value} (p:PySem.W.findIn K (.ref C) n=some (some (.ref f))) (fn:PySem.W.isFn K (.ref f)=true)
  (l:K.lookup f=some ⟨oc,od,.func (PySem.W.fnOf n q (dq st) (c7 st) (ax st) .none kV dc pm an cd ct),sl⟩) (c:PySem.W.codeIn K cd q=true) (k:PySem.W.keepIn K (.ref f)=true) :
  wN K C n q st f (PySem.W.fnOf n q (dq st) (c7 st) (ax st) .none kV dc pm an cd ct):=⟨p,fn,As l c k⟩
theorem wN.meth (I:wN K C n q st f d):mG K C n f:=⟨I.p,I.fn,I.F.kp⟩
abbrev BM (n q:Str) (st:Stmt) (us:List Value) (ps:List Str):Prop:=∀ (kV dc pm:Value) (an:Option Addr) (cd ct:Value),bindArgs (PySem.W.fnOf n q (dq st) (c7 st) (ax st) .none kV dc pm an cd ct) ⟨us,[]⟩=pure (ps.zip us)
theorem wN.b1 {x:Str} (I:wN K C n q st f d) (h:∀ u,BM n q st [u] [x]:=by exact fun _ _ _ _ _ _ _=>rfl):aL K d [x] []:=I.F.binds fun a b c e g i us hl=>match us,hl with | [u],_=>h u a b c e g i
theorem wN.b3 {x y z:Str} (I:wN K C n q st f d) (h:∀ u v w,BM n q st [u,v,w] [x,y,z]:=by exact fun _ _ _ _ _ _ _ _ _=>rfl):aL K d [x,y,z] []:=I.F.binds fun a b c e g i us hl=>match us,hl with | [u,v,w],_=>h u v w a b c e g i
end
def EF:XK:=fun _ _ _=>False
theorem nP (us:List Value):∀ (n:Nat) (acc:Array Value),(List.foldl (fun x1 x2=>x1++x2) acc (List.replicate n us.toArray)).toList=acc.toList++(List.replicate n us).flatten
 | 0,acc=>by simp
 | n+1,acc=>by
  rw [List.replicate_succ,List.foldl_cons,nP us n,List.replicate_succ]
  simp
theorem m7 {vs:List V} {us:List Value} (r:aX vs us):∀ n:Nat,aX (List.replicate n vs).flatten (List.replicate n us).flatten
 | 0=>.nil
 | n+1=>by
  rw [List.replicate_succ,List.replicate_succ,List.flatten_cons,List.flatten_cons]
  exact r.append (m7 r n)
theorem Cj {X:Cx}:gF X (binaryOp .Mult) (fun x y H Q=>∃ (p:Addr) (xs:List V) (n:Nat),x=.ref p/\y=.int n/\H p=some (.lst xs)/\xs≠[]/\xs.length * n≤1000/\∀ l,H l=none->Q (.ref l) (aG H l (.lst (List.replicate n xs).flatten))):=by
 intro pins s σ H x y xv yv Q I rx ry h
 obtain⟨p,xs,n,rfl,rfl,hp,ne,hn,q⟩:=h
 cases (show xv=Value.ref p from rx)
 obtain⟨t,rfl⟩:=(show ∃ t,yv=Value.int n t from ry)
 obtain⟨_,its,c,rv,e⟩:=(show bE X.prog X.w H s.heap p (.lst xs) from I.hok p _ hp)
 have l1:=rv.length
 have lp:0 < xs.length:=List.length_pos_iff.mpr ne
 have n1:n≤1000:=Nat.le_trans (Nat.le_mul_of_pos_left n lp) hn
 refine qD e (by omega) (by omega) (by rw [List.size_toArray,← l1,Int.toNat_natCast];omega) ?_
 have el:(List.foldl (fun x1 x2=>x1++x2) #[] (List.replicate (if its.toArray.isEmpty=true then 0 else (n:Int).toNat) its.toArray))=((List.replicate n its).flatten).toArray:=by
  apply Array.ext'
  have ie:its.toArray.isEmpty=false:=by
   cases its with
   | nil=>rw [List.length_nil] at l1;omega
   | cons a b=>rfl
  rw [ie,if_neg Bool.false_ne_true,Int.toNat_natCast,nP its n #[]]
  simp
 rw [el]
 have ln:((List.replicate n xs).flatten).length≤1000:=by
  rw [List.length_flatten,List.map_replicate,List.sum_replicate_nat]
  rw [Nat.mul_comm];exact hn
 have I2:Inv X pins σ (aG H s.heap.objs.size (.lst (List.replicate n xs).flatten)) { s with heap:=s.heap.push { cls:=.type "list", data:=.seq ((List.replicate n its).flatten).toArray } }:=
  I.laid (t':=s.toks) (fun b o e=>Heap.get?_push_of_some _ e) (Nat.le_refl _) (show bE X.prog X.w _ _ _ (.lst (List.replicate n xs).flatten) from ⟨by rw [sizeLine_eq];omega,(List.replicate n its).flatten,_,m7 rv n,Heap.get?_push_size _ rfl⟩)
 exact⟨.ref s.heap.objs.size,_,I2,rfl,q _ (I.hok.fresh (Nat.le_refl _))⟩
end B
namespace My
open PySem L2 B PyProof.Rows
theorem cE {X:Cx} {pos:Pos} (i:Nat) {x:Str} {e:Expr} {te:TE} {pos':Pos} (hN:X.N.Nodup) (he:QE X e te) (hi:X.N[i]?=some x:=by rfl) (hx:wX X.env.scope x:=by first | exact Or.inl rfl | exact Or.inr rfl) (hs:swapsWith e (some (.Name x pos')) pos.line X.env=pure false:=by rfl) (hf:X.fn x=true∨X.env.scope.names.lookup x=some .local:=by first | exact .inl rfl | exact .inr rfl | assumption):QS X (.Assign [.Name x pos'] e pos) (qg te (ke i)):=EU hN hi hx he hs hf
theorem ef {N P:List Str} {sc:Scope} (a:sc.kind=.function:=by rfl) (b:sc.isCoroutine=false:=by rfl) (c:sc.isGenerator=false:=by rfl) (d:N.Nodup:=by decide +kernel) (e:N.take P.length=P:=by rfl) (f:∀ x∈P,sc.names.lookup x=some .local∨sc.names.lookup x=some .cell:=by decide +kernel) (g:∀ y∈sc.names,y.2≠.free:=by decide +kernel):aC N P sc:=⟨a,b,c,d,e,f,g⟩
theorem cO {X:Cx} {k j:Nat} {f:Addr} {fd:FuncData} {ps:List Str} {sp:Sp} {x:Str} {p pos:Pos} {e:Expr} {es:List Expr} {t:TA} (F:bo X.prog X.w X.K X.mg X.base dE k f fd ps sp) (hr:cW j X.A) (hm:X.mg x=some (.ref f)) (hk:PySem.W.keepIn X.K (.ref f)=true) (hb:aL X.K fd ps []) (ha:QA X (e :: es) t) (hl:k≤j:=by decide) (hg:Gl X x:=by rfl) (hdb:(x == ("__debug__" : Str))=false:=by decide) (he:starEach (e :: es) X.env=(false,eval e X.env) :: starEach es X.env:=by rfl) (hpl:(backTo pos (starEach es X.env)).any (·.1)=false:=by rfl):QE X (.Call (.Name x p) (e :: es) [] pos) (xy sp [] E0 t):=kJ F (hr.mono hl) hg hm hk hb .nil fm ha hdb he hpl
theorem cf {X:Cx} {a b:Expr} {ta tb:TE} {pos:Pos} {r:R2} (hr:uZ X r) (ha:QE X a ta) (hb:QE X b tb) (hs:pY b:=by exact fun _ _=>rfl):QE X (.Subscript a b pos) (Bg r ta tb):=bL hr ha hb hs
theorem N7 {K:PySem.W.Frag} {x qual:Str} {st:Stmt} {f:Addr} {fd:FuncData} {ps:List Str} (F:di K x qual st f fd) (h:∀ (kV doc pm:Value) (an:Option Addr) (cdv ct:Value) (us:List Value),us.length=ps.length->bindArgs (PySem.W.fnOf x qual (dq st) (c7 st) (ax st) .none kV doc pm an cdv ct) ⟨us,[]⟩=pure (ps.zip us):=by
 intro _ _ _ _ _ _ us hl
 match us,hl with
 | [],h2=>first | rfl | (simp at h2)
 | [_],h2=>first | rfl | (simp at h2)
 | [_,_],h2=>first | rfl | (simp at h2)
 | [_,_,_],h2=>first | rfl | (simp at h2)
 | [_,_,_,_],h2=>first | rfl | (simp at h2)
 | _ :: _ :: _ :: _ :: _ :: _,h2=>simp at h2):aL K fd ps []:=F.binds h
def top (i:Nat):Stmt:=PySem.Challenge.pw_paceplan_k67_whole_a_work_more_lowers_no.main.body.getD i (.Pass ⟨0,0,0,0⟩)
abbrev yu:Stmt:=top 1
abbrev yO:Stmt:=top 2
abbrev EE:Stmt:=top 3
abbrev EL:Stmt:=top 13
abbrev yt:Stmt:=top 14
abbrev EK:Stmt:=top 15
abbrev ye:Stmt:=top 16
abbrev xZ:Stmt:=top 17
abbrev yd:Stmt:=top 18
abbrev yc:Stmt:=top 19
abbrev xY:Stmt:=top 20
abbrev yi:Stmt:=top 21
abbrev yg:Stmt:=top 22
abbrev yb:Stmt:=top 23
abbrev yN:Stmt:=top 24
abbrev yh:Stmt:=top 28
abbrev yC:Stmt:=top 29
abbrev yM:Stmt:=top 30
abbrev yr:Stmt:=top 31
abbrev ED:Stmt:=top 32
abbrev yq:Stmt:=top 33
abbrev EC:Stmt:=top 35
abbrev xX:Stmt:=top 36
abbrev EJ:Stmt:=top 37
abbrev yo:Stmt:=top 38
abbrev yf:Stmt:=top 39
abbrev EI:Stmt:=top 40
abbrev EB:Stmt:=top 41
abbrev EH:Stmt:=top 43
abbrev yn:Stmt:=top 44
abbrev yB:Stmt:=top 45
abbrev ya:Stmt:=top 46
abbrev yF:Stmt:=top 47
abbrev EG:Stmt:=top 49
abbrev yE:Stmt:=top 50
abbrev yL:Stmt:=top 53
abbrev yA:Stmt:=top 54
abbrev ym:Stmt:=top 55
abbrev yl:Stmt:=top 56
abbrev yk:Stmt:=top 57
abbrev yK:Stmt:=top 58
abbrev yz:Stmt:=top 59
abbrev yJ:Stmt:=top 60
abbrev yy:Stmt:=top 61
abbrev yj:Stmt:=top 62
abbrev xW:Stmt:=top 63
abbrev yI:Stmt:=ij (top 51) 0
abbrev yH:Stmt:=ij (top 51) 1
abbrev yx:Stmt:=ij (top 51) 2
abbrev yD:Stmt:=ij (top 51) 3
abbrev yP:Stmt:=ij (top 51) 4
abbrev yG:Stmt:=ij (top 51) 5
structure Ad where
 a_Q29:Addr
 d_Q29:FuncData
 a_Q11:Addr
 d_Q11:FuncData
 a_Q6:Addr
 d_Q6:FuncData
 a_Q0:Addr
 d_Q0:FuncData
 a_Q30:Addr
 d_Q30:FuncData
 a_Q1:Addr
 d_Q1:FuncData
 a_Q43:Addr
 d_Q43:FuncData
 a_Q48:Addr
 d_Q48:FuncData
 a_Q44:Addr
 d_Q44:FuncData
 a_Q45:Addr
 d_Q45:FuncData
 a_Q49:Addr
 d_Q49:FuncData
 a_Q39:Addr
 d_Q39:FuncData
 a_Q41:Addr
 d_Q41:FuncData
 a_Q46:Addr
 d_Q46:FuncData
 a_Q12:Addr
 d_Q12:FuncData
 a_Q40:Addr
 d_Q40:FuncData
 a_Q23:Addr
 d_Q23:FuncData
 a_Q13:Addr
 d_Q13:FuncData
 a_Q31:Addr
 d_Q31:FuncData
 a_Q7:Addr
 d_Q7:FuncData
 a_Q32:Addr
 d_Q32:FuncData
 a_Q8:Addr
 d_Q8:FuncData
 a_Q50:Addr
 d_Q50:FuncData
 a_Q2:Addr
 d_Q2:FuncData
 a_Q33:Addr
 d_Q33:FuncData
 a_Q42:Addr
 d_Q42:FuncData
 a_Q3:Addr
 d_Q3:FuncData
 a_Q9:Addr
 d_Q9:FuncData
 a_Q4:Addr
 d_Q4:FuncData
 a_Q34:Addr
 d_Q34:FuncData
 a_Q24:Addr
 d_Q24:FuncData
 a_Q47:Addr
 d_Q47:FuncData
 a_Q20:Addr
 d_Q20:FuncData
 a_Q5:Addr
 d_Q5:FuncData
 a_Q21:Addr
 d_Q21:FuncData
 a_Q14:Addr
 d_Q14:FuncData
 a_Q25:Addr
 d_Q25:FuncData
 a_Q35:Addr
 d_Q35:FuncData
 a_Q36:Addr
 d_Q36:FuncData
 a_Q37:Addr
 d_Q37:FuncData
 a_Q15:Addr
 d_Q15:FuncData
 a_Q26:Addr
 d_Q26:FuncData
 a_Q16:Addr
 d_Q16:FuncData
 a_Q27:Addr
 d_Q27:FuncData
 a_Q38:Addr
 d_Q38:FuncData
 a_Q51:Addr
 d_Q51:FuncData
 a_Q17:Addr
 d_Q17:FuncData
 a_Q18:Addr
 d_Q18:FuncData
 a_Q28:Addr
 d_Q28:FuncData
 a_Q22:Addr
 d_Q22:FuncData
 a_Q10:Addr
 d_Q10:FuncData
 a_Q19:Addr
 d_Q19:FuncData
 c_Keeper:Addr
 c_NOUGHT:Addr
 k_TURNS:Tok
 k_MOST_WORKS:Tok
structure d8 (K:PySem.W.Frag) (mg:Str->Option Value) (t:Ad):Prop where
 F_Q29:di K "is_whole" "is_whole" yu t.a_Q29 t.d_Q29
 b_Q29:aL K t.d_Q29 ["thing"] []
 m_Q29:mg "is_whole" = some (.ref t.a_Q29)
 F_Q11:di K "is_tuple_of" "is_tuple_of" yO t.a_Q11 t.d_Q11
 b_Q11:aL K t.d_Q11 ["thing", "length"] []
 m_Q11:mg "is_tuple_of" = some (.ref t.a_Q11)
 F_Q6:di K "is_number_of" "is_number_of" EE t.a_Q6 t.d_Q6
 b_Q6:aL K t.d_Q6 ["thing", "count"] []
 m_Q6:mg "is_number_of" = some (.ref t.a_Q6)
 F_Q0:di K "greatest_divisor" "greatest_divisor" EL t.a_Q0 t.d_Q0
 b_Q0:aL K t.d_Q0 ["one", "other"] []
 m_Q0:mg "greatest_divisor" = some (.ref t.a_Q0)
 F_Q30:di K "is_ratio" "is_ratio" yt t.a_Q30 t.d_Q30
 b_Q30:aL K t.d_Q30 ["thing"] []
 m_Q30:mg "is_ratio" = some (.ref t.a_Q30)
 F_Q1:di K "is_above_nought" "is_above_nought" EK t.a_Q1 t.d_Q1
 b_Q1:aL K t.d_Q1 ["thing"] []
 m_Q1:mg "is_above_nought" = some (.ref t.a_Q1)
 F_Q43:di K "ratio" "ratio" ye t.a_Q43 t.d_Q43
 b_Q43:aL K t.d_Q43 ["top", "bottom"] []
 m_Q43:mg "ratio" = some (.ref t.a_Q43)
 F_Q48:di K "plus" "plus" xZ t.a_Q48 t.d_Q48
 b_Q48:aL K t.d_Q48 ["one", "other"] []
 m_Q48:mg "plus" = some (.ref t.a_Q48)
 F_Q44:di K "minus" "minus" yd t.a_Q44 t.d_Q44
 b_Q44:aL K t.d_Q44 ["one", "other"] []
 m_Q44:mg "minus" = some (.ref t.a_Q44)
 F_Q45:di K "times" "times" yc t.a_Q45 t.d_Q45
 b_Q45:aL K t.d_Q45 ["one", "other"] []
 m_Q45:mg "times" = some (.ref t.a_Q45)
 F_Q49:di K "over" "over" xY t.a_Q49 t.d_Q49
 b_Q49:aL K t.d_Q49 ["one", "other"] []
 m_Q49:mg "over" = some (.ref t.a_Q49)
 F_Q39:di K "is_less" "is_less" yi t.a_Q39 t.d_Q39
 b_Q39:aL K t.d_Q39 ["one", "other"] []
 m_Q39:mg "is_less" = some (.ref t.a_Q39)
 F_Q41:di K "lesser" "lesser" yg t.a_Q41 t.d_Q41
 b_Q41:aL K t.d_Q41 ["one", "other"] []
 m_Q41:mg "lesser" = some (.ref t.a_Q41)
 F_Q46:di K "total" "total" yb t.a_Q46 t.d_Q46
 b_Q46:aL K t.d_Q46 ["some"] []
 m_Q46:mg "total" = some (.ref t.a_Q46)
 F_Q12:di K "whole_parts" "whole_parts" yN t.a_Q12 t.d_Q12
 b_Q12:aL K t.d_Q12 ["some"] []
 m_Q12:mg "whole_parts" = some (.ref t.a_Q12)
 F_Q40:di K "is_work" "is_work" yh t.a_Q40 t.d_Q40
 b_Q40:aL K t.d_Q40 ["thing"] []
 m_Q40:mg "is_work" = some (.ref t.a_Q40)
 F_Q23:di K "in_window" "in_window" yC t.a_Q23 t.d_Q23
 b_Q23:aL K t.d_Q23 ["work", "turn"] []
 m_Q23:mg "in_window" = some (.ref t.a_Q23)
 F_Q13:di K "no_leanings" "no_leanings" yM t.a_Q13 t.d_Q13
 b_Q13:aL K t.d_Q13 ["count"] []
 m_Q13:mg "no_leanings" = some (.ref t.a_Q13)
 F_Q31:di K "add_lean" "add_lean" yr t.a_Q31 t.d_Q31
 b_Q31:aL K t.d_Q31 ["leanings", "lean"] []
 m_Q31:mg "add_lean" = some (.ref t.a_Q31)
 F_Q7:di K "all_leanings" "all_leanings" ED t.a_Q7 t.d_Q7
 b_Q7:aL K t.d_Q7 ["count", "leans"] []
 m_Q7:mg "all_leanings" = some (.ref t.a_Q7)
 F_Q32:di K "drawn_in" "drawn_in" yq t.a_Q32 t.d_Q32
 b_Q32:aL K t.d_Q32 ["sheet"] []
 m_Q32:mg "drawn_in" = some (.ref t.a_Q32)
 F_Q8:di K "kept_windows" "kept_windows" EC t.a_Q8 t.d_Q8
 b_Q8:aL K t.d_Q8 ["works", "left"] []
 m_Q8:mg "kept_windows" = some (.ref t.a_Q8)
 F_Q50:di K "held" "held" xX t.a_Q50 t.d_Q50
 b_Q50:aL K t.d_Q50 ["windows", "begin", "end"] []
 m_Q50:mg "held" = some (.ref t.a_Q50)
 F_Q2:di K "tightest_places" "tightest_places" EJ t.a_Q2 t.d_Q2
 b_Q2:aL K t.d_Q2 ["windows", "amounts", "count"] []
 m_Q2:mg "tightest_places" = some (.ref t.a_Q2)
 F_Q33:di K "tightest" "tightest" yo t.a_Q33 t.d_Q33
 b_Q33:aL K t.d_Q33 ["works", "left"] []
 m_Q33:mg "tightest" = some (.ref t.a_Q33)
 F_Q42:di K "layers" "layers" yf t.a_Q42 t.d_Q42
 b_Q42:aL K t.d_Q42 ["works"] []
 m_Q42:mg "layers" = some (.ref t.a_Q42)
 F_Q3:di K "layer_density" "layer_density" EI t.a_Q3 t.d_Q3
 b_Q3:aL K t.d_Q3 ["works", "layer"] []
 m_Q3:mg "layer_density" = some (.ref t.a_Q3)
 F_Q9:di K "layer_speeds" "layer_speeds" EB t.a_Q9 t.d_Q9
 b_Q9:aL K t.d_Q9 ["works"] []
 m_Q9:mg "layer_speeds" = some (.ref t.a_Q9)
 F_Q4:di K "first_to_come" "first_to_come" EH t.a_Q4 t.d_Q4
 b_Q4:aL K t.d_Q4 ["works", "leanings", "waiting"] []
 m_Q4:mg "first_to_come" = some (.ref t.a_Q4)
 F_Q34:di K "order_of" "order_of" yn t.a_Q34 t.d_Q34
 b_Q34:aL K t.d_Q34 ["works", "leans"] []
 m_Q34:mg "order_of" = some (.ref t.a_Q34)
 F_Q24:di K "deal_turn" "deal_turn" yB t.a_Q24 t.d_Q24
 b_Q24:aL K t.d_Q24 ["works", "order", "left", "turn", "speed"] []
 m_Q24:mg "deal_turn" = some (.ref t.a_Q24)
 F_Q47:di K "dealt" "dealt" ya t.a_Q47 t.d_Q47
 b_Q47:aL K t.d_Q47 ["works", "leans", "speeds"] []
 m_Q47:mg "dealt" = some (.ref t.a_Q47)
 F_Q20:di K "least_plan" "least_plan" yF t.a_Q20 t.d_Q20
 b_Q20:aL K t.d_Q20 ["sheet"] []
 m_Q20:mg "least_plan" = some (.ref t.a_Q20)
 F_Q5:di K "waiting_works" "waiting_works" EG t.a_Q5 t.d_Q5
 b_Q5:aL K t.d_Q5 ["works", "amounts", "turn"] []
 m_Q5:mg "waiting_works" = some (.ref t.a_Q5)
 F_Q21:di K "renumbered" "renumbered" yE t.a_Q21 t.d_Q21
 b_Q21:aL K t.d_Q21 ["pieces", "numbers"] []
 m_Q21:mg "renumbered" = some (.ref t.a_Q21)
 F_Q14:di K "_law_cell_at" "_law_cell_at" yL t.a_Q14 t.d_Q14
 b_Q14:aL K t.d_Q14 ["_law_script", "_law_k"] []
 m_Q14:mg "_law_cell_at" = some (.ref t.a_Q14)
 F_Q25:di K "_law_draws" "_law_draws" yA t.a_Q25 t.d_Q25
 b_Q25:aL K t.d_Q25 ["_law_cell", "_law_many"] []
 m_Q25:mg "_law_draws" = some (.ref t.a_Q25)
 F_Q35:di K "_law_take" "_law_take" ym t.a_Q35 t.d_Q35
 b_Q35:aL K t.d_Q35 ["_law_tape", "_law_many"] []
 m_Q35:mg "_law_take" = some (.ref t.a_Q35)
 F_Q36:di K "_law_made" "_law_made" yl t.a_Q36 t.d_Q36
 b_Q36:aL K t.d_Q36 ["_law_top", "_law_bottom"] []
 m_Q36:mg "_law_made" = some (.ref t.a_Q36)
 F_Q37:di K "_law_plus" "_law_plus" yk t.a_Q37 t.d_Q37
 b_Q37:aL K t.d_Q37 ["_law_one", "_law_other"] []
 m_Q37:mg "_law_plus" = some (.ref t.a_Q37)
 F_Q15:di K "_law_is_less" "_law_is_less" yK t.a_Q15 t.d_Q15
 b_Q15:aL K t.d_Q15 ["_law_one", "_law_other"] []
 m_Q15:mg "_law_is_less" = some (.ref t.a_Q15)
 F_Q26:di K "_law_total" "_law_total" yz t.a_Q26 t.d_Q26
 b_Q26:aL K t.d_Q26 ["_law_some"] []
 m_Q26:mg "_law_total" = some (.ref t.a_Q26)
 F_Q16:di K "_law_planned" "_law_planned" yJ t.a_Q16 t.d_Q16
 b_Q16:aL K t.d_Q16 ["_law_keeper"] []
 m_Q16:mg "_law_planned" = some (.ref t.a_Q16)
 F_Q27:di K "_law_falls" "_law_falls" yy t.a_Q27 t.d_Q27
 b_Q27:aL K t.d_Q27 ["_law_speeds"] []
 m_Q27:mg "_law_falls" = some (.ref t.a_Q27)
 F_Q38:di K "_law_step" "_law_step" yj t.a_Q38 t.d_Q38
 b_Q38:aL K t.d_Q38 ["_law_tape", "_law_keeper"] []
 m_Q38:mg "_law_step" = some (.ref t.a_Q38)
 F_Q51:di K "law" "law" xW t.a_Q51 t.d_Q51
 b_Q51:aL K t.d_Q51 ["_law_script"] []
 m_Q51:mg "law" = some (.ref t.a_Q51)
 F_Q17:di K "__init__" "Keeper.__init__" yI t.a_Q17 t.d_Q17
 b_Q17:aL K t.d_Q17 ["self"] []
 K_Keeper:L2.Mk K t.c_Keeper t.a_Q17
 F_Q18:di K "come" "Keeper.come" yH t.a_Q18 t.d_Q18
 b_Q18:aL K t.d_Q18 ["self", "last", "amount"] []
 M_Keeper_come:mG K t.c_Keeper "come" t.a_Q18
 F_Q28:di K "go" "Keeper.go" yx t.a_Q28 t.d_Q28
 b_Q28:aL K t.d_Q28 ["self"] []
 M_Keeper_go:mG K t.c_Keeper "go" t.a_Q28
 F_Q22:di K "now" "Keeper.now" yD t.a_Q22 t.d_Q22
 b_Q22:aL K t.d_Q22 ["self"] []
 M_Keeper_now:mG K t.c_Keeper "now" t.a_Q22
 F_Q10:di K "works" "Keeper.works" yP t.a_Q10 t.d_Q10
 b_Q10:aL K t.d_Q10 ["self"] []
 M_Keeper_works:mG K t.c_Keeper "works" t.a_Q10
 F_Q19:di K "left" "Keeper.left" yG t.a_Q19 t.d_Q19
 b_Q19:aL K t.d_Q19 ["self"] []
 M_Keeper_left:mG K t.c_Keeper "left" t.a_Q19
 m_Keeper:mg "Keeper" = some (.ref t.c_Keeper)
 cl_Keeper:tT K t.c_Keeper
 n_Keeper_turn:dC K t.c_Keeper "turn"
 n_Keeper_known:dC K t.c_Keeper "known"
 n_Keeper_rest:dC K t.c_Keeper "rest"
 n_Keeper_done:dC K t.c_Keeper "done"
 m_NOUGHT:mg "NOUGHT" = some (.ref t.c_NOUGHT)
 q_NOUGHT:∀ H,bt K H t.c_NOUGHT [.int (0),.int (1)]
 m_TURNS:mg "TURNS" = some (.int (24) t.k_TURNS)
 m_MOST_WORKS:mg "MOST_WORKS" = some (.int (20) t.k_MOST_WORKS)
 z_abs:mg "abs" = none
 z_any:mg "any" = none
 z_bool:mg "bool" = none
 z_enumerate:mg "enumerate" = none
 z_int:mg "int" = none
 z_isinstance:mg "isinstance" = none
 z_len:mg "len" = none
 z_list:mg "list" = none
 z_max:mg "max" = none
 z_min:mg "min" = none
 z_range:mg "range" = none
 z_sum:mg "sum" = none
 z_tuple:mg "tuple" = none
inductive ee (K_:PySem.W.Frag) (vs:List V) (H:Hp) (Q:VK):Prop where
 | mk (a b:Int) (h0_:vs=[.int a,.int b]) (h1_:Q (.int (Int.gcd a b:Nat)) H):ee K_ vs H Q
def iw (K_:PySem.W.Frag):Sp:=fun vs H Q _=>ee K_ vs H Q
theorem Ag {B b:Int} (hB:0 < B) (hb:0 < b) (h1:B∣(84 * 5354228880 ^ 23)) (h2:b∣(84 * 5354228880 ^ 23)):0 < B * (b / (Int.gcd B b:Int))/\B * (b / (Int.gcd B b:Int))∣(84 * 5354228880 ^ 23)/\B∣B * (b / (Int.gcd B b:Int))/\b∣B * (b / (Int.gcd B b:Int)):=by
 obtain⟨m,rfl⟩:=Int.eq_ofNat_of_zero_le (Int.le_of_lt hB)
 obtain⟨n,rfl⟩:=Int.eq_ofNat_of_zero_le (Int.le_of_lt hb)
 have e:(m:Int) * ((n:Int) / (Int.gcd m n:Int))=((Nat.lcm m n:Nat):Int):=by
  show (m:Int) * ((n:Int) / ((Nat.gcd m n:Nat):Int))=_
  rw [← Int.natCast_ediv,← Int.natCast_mul]
  unfold Nat.lcm
  rw [Nat.mul_div_assoc _ (Nat.gcd_dvd_right m n)]
 rw [e]
 have p:=Nat.lcm_pos (show 0 < m by omega) (show 0 < n by omega)
 refine⟨by omega,?_,Int.natCast_dvd_natCast.mpr (Nat.dvd_lcm_left m n),Int.natCast_dvd_natCast.mpr (Nat.dvd_lcm_right m n)⟩
 have a1:m∣(84 * 5354228880 ^ 23):=Int.natCast_dvd_natCast.mp h1
 have a2:n∣(84 * 5354228880 ^ 23):=Int.natCast_dvd_natCast.mp h2
 exact Int.natCast_dvd_natCast.mpr (Nat.lcm_dvd a1 a2)
theorem pF {H:Hp} {a:Addr} (h:H a=none) (o:HO):aB H (aG H a o)/\aG H a o a=some o:=⟨ap h o,ai⟩
theorem cn.ofAt {α:Type} {P:V->α->Prop}:∀ {xs:List V} {ds:List α},xs.length=ds.length->(∀ (i:Nat) (x:V) (d:α),xs[i]?=some x->ds[i]?=some d->P x d)->cn P xs ds
 | [],[],_,_=>.nil
 | [],_ :: _,h,_=>nomatch h
 | _ :: _,[],h,_=>nomatch h
 | x :: _,d :: _,h,k=>.cons (k 0 x d rfl rfl) (cn.ofAt (Nat.succ.inj h) fun i y e a b=>k (i+1) y e a b)
theorem fP {α β:Type} {K:PySem.W.Frag} {J:It} {H:Hp} {D:Addr} {xs:List V} {ds:List α} {P:Hp->V->β->Prop} {f:α->β} {src:List (Option Nat)} {σ:L2.St} {g:TG} {tt:TT} {te:TE} {Q:Hp->Prop}
  (mono:∀ H H' v d,aN K H H'->P H v d->P H' v d) (hD:H D=none) (wk:DT J H xs.length (fun i x _=>xs[i]?=some x)) (hl:xs.length=ds.length) (hn:ds.length≤1000)
  (turn:∀ (i:Nat) (x:V) (d:α) (H':Hp),xs[i]?=some x->ds[i]?=some d->aB H H'->∀ (R:VK) (E:Hp->Prop),(∀ v H'',aB H' H''->P H'' v (f d)->R v H'')→
   g x (cZ src σ) H' fun σ2 H2=>iz (cZ src σ) σ2/\tt σ2 H2 fun ok H3=>if ok=true then te σ2 H3 R else E H3)
  (fin:∀ H' ys,aB H H'->H' D=some (.lst ys)->cn (P H') ys (ds.map f)->Q H') :
  JD J D H src σ g tt te Q:=
 wx (K:=K) (P:=fun H v i=>∀ d,ds[i]?=some d->P H v (f d)) wk (fun i:Nat=>i) (fun _ _ _ _ t h d e=>mono _ _ _ _ t (h d e)) hD (by omega)
  (fun i x H' hi s p R E kR=>by
   have hd:ds[i]?=some (ds[i]'(by omega)):=List.getElem?_eq_getElem _
   exact turn i x _ H' p hd s R E fun v H'' s' h=>kR v H'' s' fun d' e=>by rw [hd] at e;cases e;exact h)
  fun H' ys s e al=>fin H' ys s e (cn.ofAt (by have:=al.len;rw [List.length_map,List.length_range] at this;rw [List.length_map];omega) fun i y d a b=>by
   obtain⟨j,c,h⟩:=al.at a
   rw [List.getElem?_map] at b c
   obtain⟨d',e',rfl⟩:=Option.map_eq_some_iff.mp b
   obtain⟨j',e2,rfl⟩:=Option.map_eq_some_iff.mp c
   rw [List.getElem?_range (by have:=(List.getElem?_eq_some_iff.mp e').1;omega)] at e2
   cases e2
   exact h d' e')
def mY (H:Hp) (Q:VK) (r:R):Prop:=∀ p,H p=none->Q (.ref p) (aG H p (.tup [.int r.1,.int r.2]))
def Hl (K:PySem.W.Frag) (H:Hp) (Q:VK) (r:R):Prop:=∀ (v:V) (H':Hp),aB H H'->RV K H' v r->Q v H'
theorem nR (K:PySem.W.Frag) {H:Hp} {Q:VK} {r:R} (h:∀ (p:Addr) (H':Hp),aB H H'->RV K H' (.ref p) r->Q (.ref p) H'):mY H Q r:=fun p hp=>h p _ (ap hp _) (RV.of ai)
inductive oj (K_:PySem.W.Frag) (vs:List V) (H:Hp) (Q:VK):Prop where
 | mk (a b:Int) (h0_:vs=[.int a,.int b]) (h1_:0 < b) (h2_:b.natAbs < 2 ^ 8990) (h3_:mY H Q (eG a b)):oj K_ vs H Q
def xM (K_:PySem.W.Frag):Sp:=fun vs H Q _=>oj K_ vs H Q
inductive rq (K:PySem.W.Frag) (vs:List V) (H:Hp) (Q:VK):Prop where
 | mk (v w:V) (r q:R) (n m:Nat) (h0_:vs=[v,w]) (h1_:RV K H v r) (h2_:RV K H w q) (h3_:Wf n r) (h4_:Wf m q) (h5_:(n≤8900/\m≤8900)) (h6_:mY H Q (bM r q)):rq K vs H Q
def Bo (K:PySem.W.Frag):Sp:=fun vs H Q _=>rq K vs H Q
inductive oh (K:PySem.W.Frag) (vs:List V) (H:Hp) (Q:VK):Prop where
 | mk (v w:V) (r q:R) (n m:Nat) (h0_:vs=[v,w]) (h1_:RV K H v r) (h2_:RV K H w q) (h3_:Wf n r) (h4_:Wf m q) (h5_:(n≤8900/\m≤8900)) (h6_:mY H Q (dH r q)):oh K vs H Q
def xL (K:PySem.W.Frag):Sp:=fun vs H Q _=>oh K vs H Q
def GF (K:PySem.W.Frag) (H:Hp) (a:Addr) (xs:List V):Prop:=aU K H a xs∨bt K H a xs
inductive og (K:PySem.W.Frag) (vs:List V) (H:Hp) (Q:VK):Prop where
 | mk (a:Addr) (xs:List V) (rs:List R) (n D:Nat) (h0_:vs=[.ref a]) (h1_:GF K H a xs) (h2_:J2 K H xs rs) (h3_:(∀ r∈rs,Wf n r/\r.2∣(D:Int))) (h4_:0 < D) (h5_:D < 2 ^ n) (h6_:rs.length≤64) (h7_:n≤4000) (h8_:∀ (v':V) (H':Hp),aB H H'->RV K H' v' (eW rs)->Q v' H'):og K vs H Q
def xK (K:PySem.W.Frag):Sp:=fun vs H Q _=>og K vs H Q
theorem uV {D i n:Nat} {ps:List (Int×Int)} {r:R} (h:∀ p∈ps,p.1∣(D:Int)) (hr:r.2∣(D:Int)):∀ p∈fG ps r.2 r.1,p.1∣(D:Int):=fun p hp=>by
 rcases (jy ps r.2 r.1 p.1).mp (List.mem_map.mpr ⟨p,hp,rfl⟩) with z | z
 ·obtain⟨q,hq,e⟩:=List.mem_map.mp z
  rw [← e]
  exact h q hq
 ·rw [z];exact hr
theorem Aq {D n i:Nat} {ps:List (Int×Int)} (ok:ky n i ps) (hd:∀ p∈ps,p.1∣(D:Int)) (hi:i≤64) {q:Int×Int} (hq:q∈ps):Bq D (64 * 2 ^ n) (eG q.2 q.1):=by
 have b:=(ok.bot q hq).1
 refine uQ b (hd q hq) (Nat.le_trans (ok.top q hq) ?_)
 refine Nat.le_trans (Nat.mul_le_mul_right _ hi) (Nat.le_mul_of_pos_right _ (by omega))
theorem AR {D n j:Nat} {r:R} (h:Bq D (64 * 2 ^ n * j) r) (hj:j≤64) (h0:0 < D) (hD:D < 2 ^ n):Wf (2 * n+12) r:=by
 refine h.wf h0 (Nat.lt_of_lt_of_le hD (Nat.pow_le_pow_right (by decide) (by omega))) ?_
 have a:64 * 2 ^ n * j≤64 * 2 ^ n * 64:=Nat.mul_le_mul_left _ hj
 have b:64 * 2 ^ n * j * D < 64 * 2 ^ n * 64 * 2 ^ n:=Nat.lt_of_le_of_lt (Nat.mul_le_mul_right _ a) (Nat.mul_lt_mul_of_pos_left hD (Nat.mul_pos (Nat.mul_pos (by decide) (Nat.pow_pos (by decide))) (by decide)))
 refine Nat.lt_of_lt_of_le b ?_
 rw [show 2 * n+12=n+(n+12) by omega,Nat.pow_add,Nat.pow_add,show (2:Nat) ^ 12=4096 by decide]
 rw [show 64 * 2 ^ n * 64 * 2 ^ n=2 ^ n * (2 ^ n * 4096) by rw [show (4096:Nat)=64 * 64 by decide];ac_rfl]
 exact Nat.le_refl _
theorem gS {a g:Int} (hg:0 < g) (h:a.natAbs < 2 ^ 8990):(a / g).natAbs < 2 ^ 8990:=Nat.lt_of_le_of_lt (fE a hg) h
theorem mj {a b:Int} (hb:0 < b) (h:b.natAbs < 2 ^ 8990):((Int.gcd a b:Nat):Int).natAbs < 2 ^ 8990:=by
 have z:Int.gcd a b≤b.natAbs:=Nat.le_of_dvd (by omega) (by have:=Int.gcd_dvd_right a b;exact Int.natAbs_dvd_natAbs.mpr this)
 have e:((Int.gcd a b:Nat):Int).natAbs=Int.gcd a b:=Int.natAbs_natCast _
 omega
theorem bR {i:Int} {n:Nat} (h:i.natAbs < 2 ^ n) (hn:n≤8990):i.natAbs < 2 ^ 8990:=Nat.lt_of_lt_of_le h (Nat.pow_le_pow_right (by decide) hn)
inductive rB (K:PySem.W.Frag) (vs:List V) (H:Hp) (Q:VK):Prop where
 | mk (v w:V) (r:R) (n m:Nat) (h0_:vs=[v,w]) (h1_:RV K H v r) (h2_:RV K H w ((m:Int),1)) (h3_:Wf n r) (h4_:0 < m) (h5_:m≤24) (h6_:n≤2000) (h7_:Hl K H Q (dH r (1,(m:Int)))):rB K vs H Q
def Bp (K:PySem.W.Frag):Sp:=fun vs H Q _=>rB K vs H Q
theorem F5 {m:Nat} (h:0 < m):eG 1 (m:Int)=(1,(m:Int)):=fc (by omega) (by omega) (by simp) (by omega)
theorem Ft {m:Nat} (h:0 < m) (h':m≤24):Wf 5 ((1,(m:Int)):R):=⟨by show (0:Int) < m;omega,by show (1:Int).natAbs < 2 ^ 5;decide,by show ((m:Int)).natAbs < 32;omega,by simp⟩
theorem C7 {K:PySem.W.Frag} {H:Hp} {xs:List V} {rs:List R} (h:cn (RV K H) xs rs):J2 K H xs rs:=⟨h.len,fun i x r hx hr=>by obtain⟨d,hd,p⟩:=h.at hx;rw [hr] at hd;cases hd;exact p⟩
theorem cn.setI {α:Type} {P:V->α->Prop} {v:V} {d:α} (k:P v d):∀ {xs:List V} {ds:List α} (i:Nat),cn P xs ds->cn P (xs.set i v) (ds.set i d)
 | _,_,_,.nil=>.nil
 | _,_,0,.cons _ t=>.cons k t
 | _,_,i+1,.cons h t=>.cons h (cn.setI k i t)
theorem cn.rep {α:Type} {P:V->α->Prop} {v:V} {d:α} (k:P v d):∀ n:Nat,cn P (List.replicate n v) (List.replicate n d)
 | 0=>.nil
 | n+1=>.cons k (cn.rep k n)
theorem pM {n t:Nat} (h:t < n):Ak n (t:Int)=some t:=by
 unfold Ak
 simp
 omega
abbrev Wk:=Nat×Nat×R
def AS (K:PySem.W.Frag) (H:Hp) (v:V) (w:Wk):Prop:=∃ p x,v=.ref p/\bt K H p [.int w.1,.int w.2.1,x]/\RV K H x w.2.2
theorem AS.mono {K:PySem.W.Frag} {H H':Hp} {v:V} {w:Wk} (h:AS K H v w) (t:aN K H H'):AS K H' v w:=let ⟨p,x,e,s,r⟩:=h;⟨p,x,e,t _ _ s,r.mono t⟩
structure GS (r:R):Prop where
 top:1≤r.1
 top':r.1≤12 * r.2
 bot:1≤r.2
 dvd:r.2∣(84 * 5354228880 ^ 23)
 wf:Wf 760 r
structure bF (w:Wk):Prop where
 le:w.1≤w.2.1
 lt:w.2.1 < 24
 am:GS w.2.2
def eD (K:PySem.W.Frag) (H:Hp) (v:V) (ws:List Wk):Prop:=∃ p xs,v=.ref p/\bt K H p xs/\cn (AS K H) xs ws
theorem eD.mono {K:PySem.W.Frag} {H H':Hp} {v:V} {ws:List Wk} (h:eD K H v ws) (t:aN K H H'):eD K H' v ws:=let ⟨p,xs,e,s,a⟩:=h;⟨p,xs,e,t _ _ s,a.mono fun _ _ q=>q.mono t⟩
def ba (ls:List Nat):List V:=ls.map fun n:Nat=>V.int n
def ci (ws:List Wk):List Int:=ws.map fun w=>w.2.2.1 * (84 * 5354228880 ^ 23) / w.2.2.2
def eC (B:Int) (ws:List Wk):List Int:=ws.map fun w=>w.2.2.1 * (B / w.2.2.2)
inductive gs (K:PySem.W.Frag) (vs:List V) (H:Hp) (Q:VK):Prop where
 | mk (a:Addr) (xs:List V) (ws:List Wk) (h0_:vs=[.ref a]) (h1_:aU K H a xs) (h2_:cn (RV K H) xs (ws.map fun w=>w.2.2)) (h3_:ws.length≤64) (h4_:(∀ w∈ws,bF w)) (h5_:∀ (l:Addr) (B:Int) (H':Hp),aB H H'->H l=none->0 < B->B∣(84 * 5354228880 ^ 23)->(∀ w∈ws,w.2.2.2∣B)->H' l=some (.lst ((eC B ws).map V.int))->Q (.ref l) H'):gs K vs H Q
def lu (K:PySem.W.Frag):Sp:=fun vs H Q _=>gs K vs H Q
def gm (w:Wk) (t:Nat):Bool:=decide (w.1≤t) && decide (t≤w.2.1)
inductive iO (K:PySem.W.Frag) (vs:List V) (H:Hp) (Q:VK):Prop where
 | mk (v:V) (w:Wk) (t:Nat) (h0_:vs=[v,.int t]) (h1_:AS K H v w) (h2_:Q (.bl (gm w t)) H):iO K vs H Q
def oH (K:PySem.W.Frag):Sp:=fun vs H Q _=>iO K vs H Q
def gg (ls:List Nat) (w:Wk):List Nat:=(List.range ls.length).filter fun i=>gm w (ls.getD i 0)
def bx (ls:List Nat) (w:Wk):Wn:=match gg ls w with
 | []=>none
 | x :: r=>some (x,(x :: r).getLast (by simp))
def tN (K:PySem.W.Frag) (H:Hp) (v:V):Wn->Prop
 | none=>v=.non
 | some q=>∃ p,v=.ref p/\bt K H p [.int q.1,.int q.2]
theorem tN.mono {K:PySem.W.Frag} {H H':Hp} {v:V} {o:Wn} (h:tN K H v o) (t:aN K H H'):tN K H' v o:=by
 cases o with
 | none=>exact h
 | some q=>obtain⟨p,e,s⟩:=h;exact⟨p,e,t _ _ s⟩
inductive fV (K:PySem.W.Frag) (vs:List V) (H:Hp) (Q:VK):Prop where
 | mk (v:V) (q:Addr) (ws:List Wk) (ls:List Nat) (h0_:vs=[v,.ref q]) (h1_:eD K H v ws) (h2_:ws.length≤64) (h3_:bt K H q (ba ls)) (h4_:ls.length≤24) (h5_:∀ (l:Addr) (xs:List V) (H':Hp),aB H H'->H l=none->H' l=some (.lst xs)->cn (tN K H') xs (ws.map (bx ls))->Q (.ref l) H'):fV K vs H Q
def kl (K:PySem.W.Frag):Sp:=fun vs H Q _=>fV K vs H Q
inductive rC (K:PySem.W.Frag) (vs:List V) (H:Hp) (Q:VK):Prop where
 | mk (l:Addr) (xs:List V) (os:List Wn) (p:Pl) (h0_:vs=[.ref l,.int p.1,.int p.2]) (h1_:aU K H l xs) (h2_:cn (tN K H) xs os) (h3_:os.length≤64) (h4_:∀ (D:Addr) (H':Hp),aB H H'->H D=none->H' D=some (.lst (ba (cc os p)))->Q (.ref D) H'):rC K vs H Q
def BB (K:PySem.W.Frag):Sp:=fun vs H Q _=>rC K vs H Q
def io (as:List Int) (i:Nat):Int:=as.getD i 0
theorem CD {os:List Wn} {as:List Int} (hb:∀ x∈as,0≤x/\x≤(1008 * 5354228880 ^ 23)) (hn:os.length≤64) (q:Pl):0≤cY os (io as) q/\cY os (io as) q≤(64512 * 5354228880 ^ 23):=by
 have h0:∀ i,0≤io as i/\io as i≤(1008 * 5354228880 ^ 23):=fun i=>by
  unfold io
  rw [List.getD_eq_getElem?_getD]
  cases e:as[i]? with
  | none=>exact⟨by decide,by decide⟩
  | some x=>exact hb x (List.mem_of_getElem? e)
 have key:∀ l:List Nat,0≤(l.map (io as)).sum/\(l.map (io as)).sum≤(1008 * 5354228880 ^ 23) * (l.length:Int):=by
  intro l
  induction l with
  | nil=>exact⟨by simp,by simp⟩
  | cons x l ih=>
   rw [List.map_cons,List.sum_cons,List.length_cons]
   have:=h0 x
   omega
 have k:=key (cc os q)
 have l:(cc os q).length≤os.length:=by
  unfold cc
  exact Nat.le_trans (List.length_filter_le _ _) (by rw [List.length_range];exact Nat.le_refl _)
 unfold cY
 omega
def mR (K:PySem.W.Frag) (H:Hp) (S:Pl->Prop) (L:Pl->Int) (vb:Addr) (ld ln:Int):Prop:=(ld=-1/\ln=1/\∀ r,¬ S r)∨∃ q:Pl,bt K H vb [.int q.1,.int q.2]/\ld=L q/\ln=bO q/\pZ S L q
theorem mR.mono {K:PySem.W.Frag} {H H':Hp} {S S':Pl->Prop} {L:Pl->Int} {vb:Addr} {ld ln:Int} (h:mR K H S L vb ld ln) (t:aN K H H') (e:∀ r,S' r↔S r):mR K H' S' L vb ld ln:=by
 rcases h with ⟨a,b,c⟩ | ⟨q,hq,a,b,c⟩
 ·exact .inl ⟨a,b,fun r hr=>c r ((e r).mp hr)⟩
 ·exact .inr ⟨q,t _ _ hq,a,b,c.congr e⟩
theorem wH {S:Pl->Prop} {L:Pl->Int} {q:Pl} (e:∀ r,S r↔r=q):pZ S L q:=⟨(e q).mpr rfl,fun r hr=>by rw [(e r).mp hr];exact .inr ⟨rfl,.inr ⟨rfl,Nat.le_refl _⟩⟩⟩
inductive eI (K:PySem.W.Frag) (vs:List V) (H:Hp) (Q:VK):Prop where
 | mk (l a:Addr) (xs:List V) (os:List Wn) (as:List Int) (n:Nat) (h0_:vs=[.ref l,.ref a,.int n]) (h1_:aU K H l xs) (h2_:cn (tN K H) xs os) (h3_:os.length≤64) (h4_:aU K H a (as.map V.int)) (h5_:as.length=os.length) (h6_:(∀ x∈as,0≤x/\x≤(1008 * 5354228880 ^ 23))) (h7_:1≤n) (h8_:n≤24) (h9_:∀ (p:Addr) (q:Pl) (H':Hp),aB H H'->bt K H' p [.int q.1,.int q.2]->pZ (ir n) (cY os (io as)) q->Q (.ref p) H'):eI K vs H Q
def iX (K:PySem.W.Frag):Sp:=fun vs H Q _=>eI K vs H Q
def Cw (ls:List Nat):PyData:=.tuple (ls.map fun n:Nat=>PyData.int n)
def KP (ls:List Nat) (os:List Wn) (q:Pl):PyData:=.tuple [Cw ((ls.drop q.1).take (q.2+1 - q.1)),Cw (cc os q)]
theorem zK {B:Int} {ws:List Wk} (ok:∀ w∈ws,bF w) (b0:0 < B) (bd:B∣(84 * 5354228880 ^ 23)):∀ x∈eC B ws,0≤x/\x≤(1008 * 5354228880 ^ 23):=by
 intro x hx
 obtain⟨w,hw,rfl⟩:=List.mem_map.mp hx
 have o:=(ok w hw).am
 have B84:=Int.le_of_dvd (by decide) bd
 have q0:0≤B / w.2.2.2:=Int.ediv_nonneg (by omega) (by have:=o.bot;omega)
 have q1:B / w.2.2.2≤B:=Int.ediv_le_self _ (by omega)
 have t1:=o.top
 have t2:=o.top'
 refine⟨Int.mul_nonneg (by omega) q0,?_⟩
 have h1:w.2.2.1 * (B / w.2.2.2)≤12 * w.2.2.2 * (B / w.2.2.2):=Int.mul_le_mul_of_nonneg_right t2 q0
 have h2:w.2.2.2 * (B / w.2.2.2)≤B:=Int.mul_ediv_self_le (by have:=o.bot;omega)
 rw [Int.mul_assoc] at h1
 omega
theorem w6 {ws:List Wk} (ok:∀ w∈ws,bF w):∀ x∈ci ws,0≤x/\x≤(1008 * 5354228880 ^ 23):=by
 intro x hx
 obtain⟨w,hw,rfl⟩:=List.mem_map.mp hx
 have o:=(ok w hw).am
 have t1:=o.top
 have t2:=o.top'
 refine⟨Int.ediv_nonneg (by omega) (by have:=o.bot;omega),?_⟩
 refine Int.le_of_lt_add_one (Int.ediv_lt_of_lt_mul (by have:=o.bot;omega) ?_)
 have:=o.bot
 omega
theorem qa {B:Int} {ws:List Wk} (ok:∀ w∈ws,bF w) (dv:∀ w∈ws,w.2.2.2∣B) (i:Nat):io (ci ws) i * B=io (eC B ws) i * (84 * 5354228880 ^ 23):=by
 unfold io ci eC
 rw [List.getD_eq_getElem?_getD,List.getD_eq_getElem?_getD,List.getElem?_map,List.getElem?_map]
 cases e:ws[i]? with
 | none=>simp
 | some w=>
  have hw:=List.mem_of_getElem? e
  have o:=(ok w hw).am
  obtain⟨m,hm⟩:=dv w hw
  obtain⟨n,hn⟩:=o.dvd
  have nz:w.2.2.2≠0:=by have:=o.bot;omega
  show w.2.2.1 * (84 * 5354228880 ^ 23) / w.2.2.2 * B=w.2.2.1 * (B / w.2.2.2) * (84 * 5354228880 ^ 23)
  have e1:w.2.2.1 * (84 * 5354228880 ^ 23) / w.2.2.2=w.2.2.1 * n:=by
   rw [hn,Int.mul_left_comm]
   exact Int.mul_ediv_cancel_left _ nz
  have e2:B / w.2.2.2=m:=by
   rw [hm]
   exact Int.mul_ediv_cancel_left _ nz
  rw [e1,e2,hm,hn]
  ac_rfl
theorem CV {ls:List Nat} {a b:Nat} (h1:a≤b) (h2:b≤ls.length):gT (ba ls) (some (a:Int)) (some (b:Int))=ba ((ls.drop a).take (b - a)):=by
 unfold gT ba
 rw [HT.sIx_nat,HT.sIx_nat,List.length_map,show min b ls.length=b from Nat.min_eq_left h2,show min a ls.length=a from Nat.min_eq_left (by omega),List.map_take,List.map_drop]
def DV (K:PySem.W.Frag) (H:Hp) (v:V) (y:List Nat×List Nat):Prop:=∃ p a b,v=.ref p/\bt K H p [.ref a,.ref b]/\bt K H a (ba y.1)/\bt K H b (ba y.2)
theorem DV.mono {K:PySem.W.Frag} {H H':Hp} {v:V} {y:List Nat×List Nat} (h:DV K H v y) (t:aN K H H'):DV K H' v y:=let ⟨p,a,b,e,h1,h2,h3⟩:=h;⟨p,a,b,e,t _ _ h1,t _ _ h2,t _ _ h3⟩
def cQ (ls:List Nat) (q:Pl):List Nat:=(ls.drop q.1).take (q.2+1 - q.1)
def dj (ls:List Nat) (q:Pl):List Nat:=ls.filter fun t=>!(cQ ls q).contains t
def uC (ws:List Wk) (ls:List Nat):Nat:=ws.countP fun w=>(bx ls w).isSome
theorem eR {ls:List Nat} {w:Wk} {i:Nat}:i∈gg ls w↔i < ls.length/\gm w (ls.getD i 0)=true:=by
 unfold gg
 rw [List.mem_filter,List.mem_range]
theorem tZ {ls:List Nat} {w:Wk} (h:gg ls w=[]):bx ls w=none:=by unfold bx;rw [h]
theorem p5 {ls:List Nat} {w:Wk} {x:Nat} {r:List Nat} (h:gg ls w=x :: r):bx ls w=some (x,(x :: r).getLast (by simp)):=by unfold bx;rw [h]
theorem gG {ls:List Nat} {w:Wk}:(bx ls w).isSome=true↔∃ t∈ls,gm w t=true:=by
 cases c:gg ls w with
 | nil=>
  rw [tZ c]
  refine⟨fun h=>(by cases h),fun⟨t,ht,e⟩=>?_⟩
  obtain⟨i,hi,rfl⟩:=List.mem_iff_getElem.mp ht
  have m:i∈gg ls w:=eR.mpr ⟨hi,by rw [av 0 (List.getElem?_eq_getElem hi)];exact e⟩
  rw [c] at m
  cases m
 | cons x r=>
  rw [p5 c]
  refine⟨fun _=>?_,fun _=>rfl⟩
  have m:x∈gg ls w:=by rw [c];exact List.mem_cons_self
  obtain⟨hi,e⟩:=eR.mp m
  rw [av 0 (List.getElem?_eq_getElem hi)] at e
  exact⟨_,List.getElem_mem hi,e⟩
theorem sw (ls:List Nat) (w:Wk):(gg ls w).Pairwise (· < ·):=List.Pairwise.filter _ List.pairwise_lt_range
theorem jb {ls:List Nat} {w:Wk} {a b:Nat} (h:bx ls w=some (a,b)):a∈gg ls w/\b∈gg ls w/\∀ i∈gg ls w,a≤i/\i≤b:=by
 cases c:gg ls w with
 | nil=>rw [tZ c] at h;cases h
 | cons x r=>
  rw [p5 c] at h
  have srt:=sw ls w
  rw [c] at srt
  injection h with h
  injection h with h1 h2
  subst h1 h2
  refine⟨List.mem_cons_self,List.getLast_mem _,fun i hi=>⟨?_,?_⟩⟩
  ·rcases List.mem_cons.mp hi with z | z
   ·omega
   ·have:=(List.pairwise_cons.mp srt).1 i z
    omega
  ·have e:=List.dropLast_concat_getLast (show (x :: r)≠[] by simp)
   rw [← e] at srt hi
   rcases List.mem_append.mp hi with z | z
   ·have:=(List.pairwise_append.mp srt).2.2 i z _ (List.mem_singleton.mpr rfl)
    omega
   ·have:=List.mem_singleton.mp z
    omega
theorem F0 {ls:List Nat} (nd:ls.Nodup) {i j:Nat} {hi:i < ls.length} {hj:j < ls.length} (e:ls[i]=ls[j]):i=j:=by
 have h:=List.pairwise_iff_getElem.mp nd
 rcases Nat.lt_trichotomy i j with z | z | z
 ·exact absurd e (h i j hi hj z)
 ·exact z
 ·exact absurd e.symm (h j i hj hi z)
theorem pG {ls:List Nat} {p:Pl} (nd:ls.Nodup) (hp:ir ls.length p) {i:Nat} (hi:i < ls.length):ls[i]∈cQ ls p↔p.1≤i/\i≤p.2:=by
 have h1:=hp.1
 have h2:=hp.2
 unfold cQ
 constructor
 ·intro h
  obtain⟨j,hj,e⟩:=List.mem_iff_getElem.mp h
  rw [List.length_take,List.length_drop] at hj
  rw [List.getElem_take,List.getElem_drop] at e
  have:=F0 nd e
  omega
 ·rintro⟨a,b⟩
  refine List.mem_iff_getElem.mpr ⟨i - p.1,by rw [List.length_take,List.length_drop];omega,?_⟩
  rw [List.getElem_take,List.getElem_drop]
  congr 1
  omega
theorem nB {ls:List Nat} {p:Pl} {w:Wk} (nd:ls.Nodup) (hp:ir ls.length p):(bx (dj ls p) w).isSome=((bx ls w).isSome && !gr p.1 p.2 (bx ls w)):=by
 have key:(bx (dj ls p) w).isSome=true↔∃ i,∃ hi:i < ls.length,gm w ls[i]=true/\¬ (p.1≤i/\i≤p.2):=by
  rw [gG]
  constructor
  ·rintro⟨t,ht,e⟩
   unfold dj at ht
   obtain⟨m,c⟩:=List.mem_filter.mp ht
   obtain⟨i,hi,rfl⟩:=List.mem_iff_getElem.mp m
   refine⟨i,hi,e,fun z=>?_⟩
   rw [List.contains_iff_mem.mpr ((pG nd hp hi).mpr z)] at c
   cases c
  ·rintro⟨i,hi,e,n⟩
   refine⟨ls[i],List.mem_filter.mpr ⟨List.getElem_mem hi,?_⟩,e⟩
   cases c:(cQ ls p).contains ls[i] with
   | false=>rfl
   | true=>exact absurd ((pG nd hp hi).mp (List.contains_iff_mem.mp c)) n
 have pm:∀ i,i∈gg ls w↔∃ hi:i < ls.length,gm w ls[i]=true:=fun i=>by
  rw [eR]
  constructor
  ·rintro⟨hi,e⟩
   rw [av 0 (List.getElem?_eq_getElem hi)] at e
   exact⟨hi,e⟩
  ·rintro⟨hi,e⟩
   exact⟨hi,by rw [av 0 (List.getElem?_eq_getElem hi)];exact e⟩
 cases c:bx ls w with
 | none=>
  have n:¬ (bx (dj ls p) w).isSome=true:=fun h=>by
   obtain⟨i,hi,e,_⟩:=key.mp h
   have:=gG.mpr ⟨ls[i],List.getElem_mem hi,e⟩
   rw [c] at this
   cases this
  simpa using n
 | some q=>
  obtain⟨a,b⟩:=q
  obtain⟨m1,m2,bd⟩:=jb c
  show (bx (dj ls p) w).isSome=(true && !(decide (p.1≤a) && decide (b≤p.2)))
  by_cases h:p.1≤a/\b≤p.2
  ·rw [decide_eq_true h.1,decide_eq_true h.2]
   have n:¬ (bx (dj ls p) w).isSome=true:=fun h'=>by
    obtain⟨i,hi,e,n⟩:=key.mp h'
    have:=bd i ((pm i).mpr ⟨hi,e⟩)
    exact n (by omega)
   simpa using n
  ·have y:(bx (dj ls p) w).isSome=true:=key.mpr (by
    by_cases z:p.1≤a
    ·obtain⟨hi,e⟩:=(pm b).mp m2
     exact⟨b,hi,e,by omega⟩
    ·obtain⟨hi,e⟩:=(pm a).mp m1
     exact⟨a,hi,e,by omega⟩)
   rw [y]
   by_cases z:p.1≤a
   ·rw [decide_eq_false (show ¬ b≤p.2 from fun q=>h ⟨z,q⟩),Bool.and_false];rfl
   ·rw [decide_eq_false z];rfl
theorem qW (os:List Wn) (p:Pl):(cc os p).length=os.countP (gr p.1 p.2):=by
 have:=congrArg List.length (fh (none:Wn) (gr p.1 p.2) id os)
 rw [List.length_map,List.length_map] at this
 rw [List.countP_eq_length_filter]
 exact this
theorem Cq {ws:List Wk} {ls:List Nat} {p:Pl} (nd:ls.Nodup) (hp:ir ls.length p):uC ws (dj ls p)+(cc (ws.map (bx ls)) p).length=uC ws ls:=by
 rw [qW,List.countP_map]
 unfold uC
 induction ws with
 | nil=>rfl
 | cons w ws ih=>
  rw [List.countP_cons,List.countP_cons,List.countP_cons,nB nd hp,show (gr p.1 p.2 ∘ bx ls) w=gr p.1 p.2 (bx ls w) from rfl]
  cases c:bx ls w with
  | none=>
   have:gr p.1 p.2 none=false:=rfl
   rw [this]
   simp only [Option.isSome_none,Bool.false_and,Bool.false_eq_true,if_false,Nat.add_zero]
   exact ih
  | some q=>
   cases gr p.1 p.2 (some q) with
   | true=>
    simp only [Option.isSome_some,Bool.not_true,Bool.and_false,Bool.false_eq_true,if_false,if_true,Nat.add_zero]
    omega
   | false=>
    simp only [Option.isSome_some,Bool.not_false,Bool.and_true,Bool.false_eq_true,if_false,if_true,Nat.add_zero]
    omega
theorem BJ {ls:List Nat} (nd:ls.Nodup) (p:Pl):(dj ls p).Nodup:=List.Pairwise.filter _ nd
theorem Af {A:Nat->Int} (h:∀ i,0≤A i):∀ {l:List Nat} {i:Nat},i∈l->A i≤(l.map A).sum
 | x :: l,i,hi=>by
  rw [List.map_cons,List.sum_cons]
  rcases List.mem_cons.mp hi with z | z
  ·subst z
   have:=iW h l
   omega
  ·have:=Af h z
   have:=h x
   omega
theorem qb {ws:List Wk} (ok:∀ w∈ws,bF w) (i:Nat):0≤io (ci ws) i:=by
 unfold io
 rw [List.getD_eq_getElem?_getD]
 cases e:(ci ws)[i]? with
 | none=>decide
 | some x=>exact (w6 ok x (List.mem_of_getElem? e)).1
theorem CC {ws:List Wk} {ls:List Nat} (ok:∀ w∈ws,bF w) (h:∀ r,ir ls.length r->cY (ws.map (bx ls)) (io (ci ws)) r=0):uC ws ls=0:=by
 refine List.countP_eq_zero.mpr fun w hw n=>?_
 obtain⟨q,hq⟩:=Option.isSome_iff_exists.mp n
 obtain⟨a,b⟩:=q
 obtain⟨m1,m2,bd⟩:=jb hq
 have sec:ir ls.length (a,b):=⟨(bd b m2).1,(eR.mp m2).1⟩
 obtain⟨i,hi,rfl⟩:=List.mem_iff_getElem.mp hw
 have mi:i∈cc (ws.map (bx ls)) (a,b):=by
  unfold cc
  refine List.mem_filter.mpr ⟨List.mem_range.mpr (by rw [List.length_map];exact hi),?_⟩
  rw [av none (show (ws.map (bx ls))[i]?=some (some (a,b)) by rw [List.getElem?_map,List.getElem?_eq_getElem hi];exact congrArg some hq)]
  show (decide (a≤a) && decide (b≤b))=true
  simp
 have l:=Af (qb ok) mi
 have z:=h _ sec
 unfold cY at z
 rw [z] at l
 have o:=(ok _ hw).am
 have eu:io (ci ws) i=ws[i].2.2.1 * (84 * 5354228880 ^ 23) / ws[i].2.2.2:=av 0 (by unfold ci;rw [List.getElem?_map,List.getElem?_eq_getElem hi];rfl)
 rw [eu] at l
 have t1:=o.top
 have b1:=o.bot
 have b2:=Int.le_of_dvd (by decide) o.dvd
 have:1≤ws[i].2.2.1 * (84 * 5354228880 ^ 23) / ws[i].2.2.2:=(Int.le_ediv_iff_mul_le (by omega)).mpr (by omega)
 omega
def A9 (ws:List Wk) (ls:List Nat) (p:Pl):Prop:=pZ (ir ls.length) (cY (ws.map (bx ls)) (io (ci ws))) p/\0 < cY (ws.map (bx ls)) (io (ci ws)) p
theorem Gi {ws:List Wk} {ls:List Nat} {p:Pl} (ok:∀ w∈ws,bF w) (b:pZ (ir ls.length) (cY (ws.map (bx ls)) (io (ci ws))) p) (h:uC ws ls≠0):A9 ws ls p:=by
 refine⟨b,?_⟩
 have nn:∀ r,0≤cY (ws.map (bx ls)) (io (ci ws)) r:=fun r=>iW (qb ok) _
 by_cases c:0 < cY (ws.map (bx ls)) (io (ci ws)) p
 ·exact c
 ·refine absurd (CC ok fun r hr=>?_) h
  have z:cY (ws.map (bx ls)) (io (ci ws)) p=0:=by have:=nn p;omega
  have q:=b.all r hr
  have pp:=(show ir ls.length p from b.inn).pos
  rw [z,Int.zero_mul] at q
  by_cases e:cY (ws.map (bx ls)) (io (ci ws)) r=0
  ·exact e
  ·have:=Int.mul_pos (show 0 < cY (ws.map (bx ls)) (io (ci ws)) r by have:=nn r;omega) pp
   omega
theorem A9.held {ws:List Wk} {ls:List Nat} {p:Pl} (h:A9 ws ls p):0 < (cc (ws.map (bx ls)) p).length:=by
 have:=h.2
 unfold cY at this
 cases c:cc (ws.map (bx ls)) p with
 | nil=>rw [c] at this;exact absurd this (by simp)
 | cons x r=>exact Nat.succ_pos _
abbrev Ly:=List Nat×List Nat
def gP (ws:List Wk) (ls:List Nat) (p:Pl):Ly:=(cQ ls p,cc (ws.map (bx ls)) p)
inductive gY (ws:List Wk):List Nat->List Ly->Prop where
 | nil {ls:List Nat} (h:uC ws ls=0):gY ws ls []
 | cons {ls:List Nat} {p:Pl} {r:List Ly} (h:A9 ws ls p) (t:gY ws (dj ls p) r):gY ws ls (gP ws ls p :: r)
structure j5 (n:Nat) (y:Ly):Prop where
 pos:0 < y.1.length
 few:y.1.length≤24
 lt:∀ t∈y.1,t < 24
 num:∀ i∈y.2,i < n
 len:y.2.length≤n
theorem Ac {ws:List Wk} {ls:List Nat} {p:Pl} (hp:ir ls.length p) (hl:ls.length≤24) (hb:∀ t∈ls,t < 24):j5 ws.length (gP ws ls p):=by
 have h1:=hp.1
 have h2:=hp.2
 have e:(cQ ls p).length=min (p.2+1 - p.1) (ls.length - p.1):=by unfold cQ;rw [List.length_take,List.length_drop]
 refine⟨by show 0 < (cQ ls p).length;omega,by show (cQ ls p).length≤24;omega,fun t ht=>hb t (List.mem_of_mem_drop (List.mem_of_mem_take ht)),fun i hi=>?_,?_⟩
 ·have:i∈cc (ws.map (bx ls)) p:=hi
  unfold cc at this
  have:=List.mem_range.mp (List.mem_filter.mp this).1
  rw [List.length_map] at this
  exact this
 ·show (cc (ws.map (bx ls)) p).length≤ws.length
  rw [qW]
  exact Nat.le_trans List.countP_le_length (by rw [List.length_map];exact Nat.le_refl _)
inductive jz (K:PySem.W.Frag) (vs:List V) (H:Hp) (Q:VK):Prop where
 | mk (v:V) (q:Addr) (ws:List Wk) (ls:List Nat) (h0_:vs=[v,.ref q]) (h1_:eD K H v ws) (h2_:ws.length≤64) (h3_:(∀ w∈ws,bF w)) (h4_:bt K H q (ba ls)) (h5_:1≤ls.length) (h6_:ls.length≤24) (h7_:∀ (x:V) (B:Int) (p:Pl) (H':Hp),aB H H'->0 < B->B∣(84 * 5354228880 ^ 23)->(∀ w∈ws,w.2.2.2∣B)->pZ (ir ls.length) (cY (ws.map (bx ls)) (io (eC B ws))) p->DV K H' x (gP ws ls p)->Q x H'):jz K vs H Q
def qk (K:PySem.W.Frag):Sp:=fun vs H Q _=>jz K vs H Q
def Of (K:PySem.W.Frag) (H:Hp) (v:V) (s:Nat×Nat×Nat):Prop:=∃ p,v=.ref p/\bt K H p [.int s.1,.int s.2.1,.int s.2.2]
def NV (os:List Wn) (i:Nat):List (Nat×Nat×Nat):=(List.range i).filterMap fun j=>(os.getD j none).map fun q=>(q.1,q.2,j)
def L8 (p:Pl) (s:Nat×Nat×Nat):Bool:=decide (p.1≤s.1) && decide (s.2.1≤p.2)
def Mw (K:PySem.W.Frag) (H:Hp) (os:List Wn) (S:Pl->Prop) (L:Pl->Int) (pb:Addr):Prop:=∃ (mn ln bg:Int) (lb:Addr),bt K H pb [.int mn,.int ln,.int bg,.ref lb]/\((mn=0/\ln=1/\bg=0/\∀ r,S r->L r=0)∨∃ q:Pl,0 < L q/\mn=L q/\ln=bO q/\bg=(q.1:Int)/\aU K H lb (ba (cc os q))/\pZ S L q)
mutual
def LF:PyData->Bool
 | .int _=>true
 | .str _=>true
 | .bool _=>true
 | .none=>true
 | .tuple ds=>decide (ds.length≤1000) && Dw ds
 | _=>false
def Dw:List PyData->Bool
 | []=>true
 | d :: ds=>LF d && Dw ds
end
inductive AV (k:Nat) (K:PySem.W.Frag) (vs:List V) (H:Hp) (Q:VK):Prop where
 | mk (v w:V) (d:PyData) (h0_:vs=[v,w]) (h1_:bw K H v d) (h2_:bw K H w d) (h3_:d.depth≤k) (h4_:LF d=true) (h5_:∀ H',aB H H'->Q (.bl true) H'):AV k K vs H Q
def qz (k:Nat) (K:PySem.W.Frag):Sp:=fun vs H Q _=>AV k K vs H Q
abbrev GZ:=qz 0
abbrev GY:=qz 1
abbrev GX:=qz 2
abbrev GW:=qz 3
abbrev By:=qz 4
def Ni (w:Wk):PyData:=.tuple [.int w.1,.int w.2.1,dR w.2.2]
def Nh (ws:List Wk):PyData:=.tuple (ws.map Ni)
def N4 (y:List Nat×List Nat):PyData:=.tuple [Cw y.1,Cw y.2]
def bC:Wk:=(0,0,(0,1))
def gW (ws:List Wk) (y:List Nat×List Nat):List R:=y.2.map fun i=>(ws.getD i bC).2.2
def c8 (ws:List Wk) (y:List Nat×List Nat):R:=dH (eW (gW ws y)) (1,(y.1.length:Int))
def ix (r:R) (ss:List R) (ts:List Nat):List R:=ts.foldl (fun s t=>s.set t r) ss
def aP (ws:List Wk) (lys:List (List Nat×List Nat)):List R:=lys.foldl (fun ss y=>ix (c8 ws y) ss y.1) (List.replicate 24 (0,1))
theorem lN (r:R):∀ (ts:List Nat) (ss:List R),(ix r ss ts).length=ss.length
 | [],_=>rfl
 | t :: ts,ss=>by
  show (ix r (ss.set t r) ts).length=_
  rw [lN r ts,List.length_set]
theorem ib (ws:List Wk):∀ (lys:List (List Nat×List Nat)) (ss:List R),(lys.foldl (fun ss y=>ix (c8 ws y) ss y.1) ss).length=ss.length
 | [],_=>rfl
 | y :: r,ss=>by rw [List.foldl_cons,ib ws r,lN]
theorem GC {ws:List Wk} {n:Nat} {y:List Nat×List Nat} (ok:∀ w∈ws,bF w) (h:j5 ws.length y):∀ r∈gW ws y,Wf 760 r:=by
 intro r hr
 obtain⟨i,hi,rfl⟩:=List.mem_map.mp hr
 have hl:=h.num i hi
 rw [av bC (List.getElem?_eq_getElem hl)]
 exact (ok _ (List.getElem_mem hl)).am.wf
theorem Cr {ws:List Wk} (ok:∀ w∈ws,bF w):uC ws (List.range 24)=ws.length:=by
 refine List.countP_eq_length.mpr fun w hw=>gG.mpr ⟨w.1,List.mem_range.mpr ?_,?_⟩
 ·have:=(ok w hw).le
  have:=(ok w hw).lt
  omega
 ·unfold gm
  rw [decide_eq_true (Nat.le_refl _),decide_eq_true (ok w hw).le]
  rfl
theorem FZ (ws:List Wk):uC ws []=0:=List.countP_eq_zero.mpr fun w _ h=>by
 obtain⟨t,ht,_⟩:=gG.mp h
 cases ht
theorem CI {ws:List Wk} {ls:List Nat} {p:Pl} (h:A9 ws ls p):ir ls.length p:=h.1.inn
def K5 (K:PySem.W.Frag) (H:Hp) (v:V) (lys:List (List Nat×List Nat)):Prop:=∃ p xs,v=.ref p/\bt K H p xs/\cn (DV K H) xs lys
inductive mJ (K:PySem.W.Frag) (vs:List V) (H:Hp) (Q:VK):Prop where
 | mk (v:V) (ws:List Wk) (h0_:vs=[v]) (h1_:eD K H v ws) (h2_:ws.length≤64) (h3_:(∀ w∈ws,bF w)) (h4_:∀ (x:V) (lys:List (List Nat×List Nat)) (H':Hp),aB H H'->K5 K H' x lys->gY ws (List.range 24) lys->(∀ y∈lys,j5 ws.length y)->lys.length≤64->Q x H'):mJ K vs H Q
def vC (K:PySem.W.Frag):Sp:=fun vs H Q _=>mJ K vs H Q
inductive fu (K:PySem.W.Frag) (vs:List V) (H:Hp) (Q:VK):Prop where
 | mk (v x:V) (ws:List Wk) (y:List Nat×List Nat) (h0_:vs=[v,x]) (h1_:eD K H v ws) (h2_:ws.length≤64) (h3_:(∀ w∈ws,bF w)) (h4_:DV K H x y) (h5_:j5 ws.length y) (h6_:Hl K H Q (c8 ws y)):fu K vs H Q
def jP (K:PySem.W.Frag):Sp:=fun vs H Q _=>fu K vs H Q
inductive fS (K:PySem.W.Frag) (vs:List V) (H:Hp) (Q:VK):Prop where
 | mk (v:V) (ws:List Wk) (h0_:vs=[v]) (h1_:eD K H v ws) (h2_:ws.length≤64) (h3_:(∀ w∈ws,bF w)) (h4_:∀ (p:Addr) (xs:List V) (lys:List (List Nat×List Nat)) (H':Hp),aB H H'->bt K H' p xs->cn (RV K H') xs (aP ws lys)->gY ws (List.range 24) lys->Q (.ref p) H'):fS K vs H Q
def kj (K:PySem.W.Frag):Sp:=fun vs H Q _=>fS K vs H Q
inductive hU (K:PySem.W.Frag) (vs:List V) (H:Hp) (Q:VK):Prop where
 | mk (v:V) (ws:List Wk) (h0_:vs=[v]) (h1_:eD K H v ws) (h2_:ws.length≤64) (h3_:(∀ w∈ws,bF w)) (h4_:∀ (l:Addr) (xs:List V) (lys:List (List Nat×List Nat)) (H':Hp),aB H H'->H' l=some (.lst xs)->cn (RV K H') xs (aP ws lys)->gY ws (List.range 24) lys->Q (.ref l) H'):hU K vs H Q
def AY (K:PySem.W.Frag):Sp:=fun vs H Q _=>hU K vs H Q
def vI (n:Nat) (f:Nat->Bool):List V:=(List.range n).map fun j=>V.bl (f j)
theorem oV {n:Nat} {f:Nat->Bool} {j:Nat} (h:j < n):(vI n f)[j]?=some (.bl (f j)):=by
 unfold vI
 rw [List.getElem?_map,List.getElem?_range h]
 rfl
structure De (H:Hp) (l:Addr) (rows:List Addr) (n:Nat) (L:Nat->Nat->Bool):Prop where
 top:H l=some (.lst (rows.map V.ref))
 len:rows.length=n
 nd:rows.Nodup
 ne:l∉rows
 row:∀ i r,rows[i]?=some r->H r=some (.lst (vI n (L i)))
theorem De.same {H H':Hp} {l:Addr} {rows:List Addr} {n:Nat} {L:Nat->Nat->Bool} (h:De H l rows n L) (s:aB H H'):De H' l rows n L:=⟨s _ _ h.top,h.len,h.nd,h.ne,fun i r e=>s _ _ (h.row i r e)⟩
structure Kp (rows:List Addr) (H H':Hp):Prop where
 keep:∀ b o,b∉rows->H b=some o->H' b=some o
 ls:∀ r∈rows,∃ xs,H r=some (.lst xs)
 ls':∀ r∈rows,∃ xs,H' r=some (.lst xs)
theorem Kp.trans {rows:List Addr} {H H1 H2:Hp} (a:Kp rows H H1) (b:Kp rows H1 H2):Kp rows H H2:=⟨fun c o n e=>b.keep c o n (a.keep c o n e),a.ls,b.ls'⟩
theorem Kp.same {rows:List Addr} {H H':Hp} (s:aB H H') (h:∀ r∈rows,∃ xs,H r=some (.lst xs)):Kp rows H H':=⟨fun c o _ e=>s _ _ e,h,fun r m=>let ⟨xs,e⟩:=h r m;⟨xs,s _ _ e⟩⟩
theorem Kp.up {rows:List Addr} {H:Hp} {r:Addr} (m:r∈rows) (h:∀ r∈rows,∃ xs,H r=some (.lst xs)) (ys:List V):Kp rows H (aG H r (.lst ys)):=⟨fun c o n e=>by rw [az (show c≠r from fun z=>n (by rw [z];exact m))];exact e,h,fun q mq=>by
 by_cases c:q=r
 ·subst c;exact⟨_,ai⟩
 ·rw [az c];exact h q mq⟩
theorem De.ls {H:Hp} {l:Addr} {rows:List Addr} {n:Nat} {L:Nat->Nat->Bool} (h:De H l rows n L):∀ r∈rows,∃ xs,H r=some (.lst xs):=fun r m=>by
 obtain⟨i,hi,e⟩:=List.mem_iff_getElem.mp m
 exact⟨_,h.row i r (by rw [List.getElem?_eq_getElem hi,e])⟩
theorem aN.kp {K:PySem.W.Frag} {rows:List Addr} {H H':Hp} (k:Kp rows H H'):aN K H H':=fun p xs h=>by
 rcases h with h | h
 ·have n:p∉rows:=fun m=>by
   obtain⟨ys,e⟩:=k.ls p m
   rcases h with h | ⟨o,h⟩ <;> rw [e] at h <;> cases h
  rcases h with h | ⟨o,h⟩
  ·exact .inl (.inl (k.keep _ _ n h))
  ·exact .inl (.inr ⟨o,k.keep _ _ n h⟩)
 ·exact .inr h
inductive gu (K_:PySem.W.Frag) (vs:List V) (H:Hp) (Q:VK):Prop where
 | mk (n:Nat) (h0_:vs=[.int n]) (h1_:n≤64) (h2_:∀ (l:Addr) (rows:List Addr) (H':Hp),aB H H'->H l=none->(∀ r∈rows,H r=none)->De H' l rows n (fun _ _=>false)->Q (.ref l) H'):gu K_ vs H Q
def lA (K_:PySem.W.Frag):Sp:=fun vs H Q _=>gu K_ vs H Q
def qA (_:PySem.W.Frag):Sp:=fun _ _ _ _=>False
inductive fY (K:PySem.W.Frag) (vs:List V) (H:Hp) (Q:VK):Prop where
 | mk (n:Nat) (p:Addr) (h0_:vs=[.int n,.ref p]) (h1_:bt K H p []) (h2_:n≤64) (h3_:∀ (l:Addr) (rows:List Addr) (H':Hp),aB H H'->De H' l rows n (fun _ _=>false)->Q (.ref l) H'):fY K vs H Q
def ko (K:PySem.W.Frag):Sp:=fun vs H Q _=>fY K vs H Q
structure Ob (w:Wk):Prop where
 l1:w.1 < 24
 l2:w.2.1 < 24
 am:Wf 900 w.2.2
def vF (ws:List Wk) (j:Nat):Int:=((ws.getD j bC).1:Nat)
def vL (ws:List Wk) (j:Nat):Int:=-((ws.getD j bC).2.1:Nat)
def Mj (K:PySem.W.Frag) (H:Hp) (v:V) (ws:List Wk):Prop:=∃ p a b,v=.ref p/\bt K H p [a,.ref b]/\eD K H a ws/\bt K H b []
inductive mK (K_:PySem.W.Frag) (vs:List V) (H:Hp) (Q:VK):Prop where
 | mk (i:Int) (h0_:vs=[.int i]) (h1_:Q (.int i) H):mK K_ vs H Q
def GV (K_:PySem.W.Frag):Sp:=fun vs H Q _=>mK K_ vs H Q
inductive mN (K_:PySem.W.Frag) (C:Addr) (vs:List V) (H:Hp) (Q:VK):Prop where
 | mk (a:Addr) (n:Int) (h0_:vs=[.ref a,.int n]) (h1_:H a=some (q5 a C none)) (h2_:∀ d,H d=none->d≠a->Q .non (aG (aG H a (q5 a C (some d))) d (dO d [("work", .int n)]))):mN K_ C vs H Q
def G2 (K_:PySem.W.Frag) (C:Addr):Sp:=fun vs H Q _=>mN K_ C vs H Q
theorem uS {r:R} (h:GS r):Bq (84 * 5354228880 ^ 23) 12 r:=by
 have a:=h.top
 have b:=h.top'
 have c:=h.bot
 refine⟨by omega,h.wf.cop,h.dvd,?_⟩
 have:12 * 1≤12 * r.2.natAbs:=Nat.mul_le_mul_left _ (by omega)
 omega
theorem xB {D N:Nat} (hD:0 < D):∀ {rs:List R},(∀ r∈rs,Bq D N r)->∀ {a:R} {M:Nat},Bq D M a->Bq D (M+N * rs.length) (rs.foldl bM a)
 | [],_,a,M,h=>by simpa using h
 | r :: rs,hr,a,M,h=>by
  have:=xB hD (fun q hq=>hr q (List.mem_cons_of_mem _ hq)) (h.plus hD (hr r List.mem_cons_self))
  rw [List.foldl_cons,List.length_cons,Nat.mul_succ]
  refine this.mono (Nat.dvd_refl _) (by omega)
theorem C1 {D:Nat}:Bq D 0 ((0,1):R):=⟨by decide,by decide,⟨(D:Int),by show (D:Int)=1 * D;omega⟩,by show 0≤_;exact Nat.zero_le _⟩
theorem kC {D N:Nat} (hD:0 < D) {rs:List R} (h:∀ r∈rs,Bq D N r):Bq D (N * rs.length) (eW rs):=by
 have:=xB hD h (C1 (D:=D))
 rw [Nat.zero_add] at this
 exact this
theorem BL {ws:List Wk} {y:Ly} (ok:∀ w∈ws,bF w) (hw:ws.length≤20) (lok:j5 ws.length y):Bq ((84 * 5354228880 ^ 23) * y.1.length) 240 (c8 ws y):=by
 have am:∀ r∈gW ws y,Bq (84 * 5354228880 ^ 23) 12 r:=fun r hr=>by
  obtain⟨i,hi,rfl⟩:=List.mem_map.mp hr
  have hl:=lok.num i hi
  rw [av bC (List.getElem?_eq_getElem hl)]
  exact uS (ok _ (List.getElem_mem hl)).am
 have la:(gW ws y).length=y.2.length:=List.length_map _
 have len:=lok.len
 have pos:=lok.pos
 have s:=(kC (by decide) am).mono (Nat.dvd_refl _) (show 12 * (gW ws y).length≤240 by omega)
 have o:Bq y.1.length 1 ((1,(y.1.length:Int)):R):=⟨by show (0:Int) < _;omega,by simp,Int.dvd_refl _,by show (1:Int).natAbs≤1 * ((y.1.length:Int)).natAbs;omega⟩
 exact s.times o
inductive ol (K:PySem.W.Frag) (vs:List V) (H:Hp) (Q:VK):Prop where
 | mk (v w:V) (r q:R) (n m:Nat) (h0_:vs=[v,w]) (h1_:RV K H v r) (h2_:RV K H w q) (h3_:Wf n r) (h4_:Wf m q) (h5_:(n≤8900/\m≤8900)) (h6_:Hl K H Q (bu r q)):ol K vs H Q
def xN (K:PySem.W.Frag):Sp:=fun vs H Q _=>ol K vs H Q
inductive ki (K:PySem.W.Frag) (vs:List V) (H:Hp) (Q:VK):Prop where
 | mk (v w:V) (r q:R) (n m:Nat) (h0_:vs=[v,w]) (h1_:RV K H v r) (h2_:RV K H w q) (h3_:Wf n r) (h4_:Wf m q) (h5_:(n≤8900/\m≤8900)) (h6_:Q (.bl (cS r q)) H):ki K vs H Q
def lF (K:PySem.W.Frag):Sp:=fun vs H Q _=>ki K vs H Q
theorem AH {a b:Int} (h:Int.gcd a b=1):Int.gcd (-a) b=1:=by rw [Int.neg_gcd];exact h
theorem Gz:∀ m,m < 25->0 < m->(84 * 5354228880 ^ 23) * m∣(84 * 5354228880 ^ 24):=by decide
def be (ws:List Wk) (i:Nat):Nat:=(ws.getD i bC).2.1
def gl (ws:List Wk) (l:List Nat):List Nat:=l.filter fun i=>l.all fun j=>decide (be ws i≤be ws j)
open Classical in
open Classical in
def j8 (ws:List Wk) (l:List Nat):Nat:=(gl ws l).getD 0 0
def cC (n:Nat) (come:List Nat):List Nat:=(List.range n).filter fun i=>!come.contains i
noncomputable def aS (ws:List Wk):Nat->List Nat
 | 0=>[]
 | k+1=>aS ws k++[j8 ws (cC ws.length (aS ws k))]
theorem Cv {ls:List Nat} {i:Nat} {x:V} (h:(ba ls)[i]?=some x):∃ n,ls[i]?=some n/\x=.int (n:Nat):=by
 unfold ba at h
 rw [List.getElem?_map] at h
 obtain⟨n,hn,rfl⟩:=Option.map_eq_some_iff.mp h
 exact⟨n,hn,rfl⟩
theorem qT (f:Nat->Nat):∀ (l:List Nat),l≠[]->∃ i∈l,∀ j∈l,f i≤f j
 | [],h=>absurd rfl h
 | [a],_=>⟨a,List.mem_cons_self,fun j hj=>by rw [List.mem_singleton] at hj;rw [hj];exact Nat.le_refl _⟩
 | a :: b :: l,_=>by
  obtain⟨i,hi,m⟩:=qT f (b :: l) (by simp)
  by_cases c:f a≤f i
  ·refine⟨a,List.mem_cons_self,fun j hj=>?_⟩
   rcases List.mem_cons.mp hj with z | z
   ·rw [z];exact Nat.le_refl _
   ·exact Nat.le_trans c (m j z)
  ·refine⟨i,List.mem_cons_of_mem _ hi,fun j hj=>?_⟩
   rcases List.mem_cons.mp hj with z | z
   ·rw [z];omega
   ·exact m j z
theorem jp {ws:List Wk} {l:List Nat} {i:Nat}:i∈gl ws l↔i∈l/\∀ j∈l,be ws i≤be ws j:=by
 unfold gl
 rw [List.mem_filter,List.all_eq_true]
 exact and_congr_right fun _=>forall_congr' fun j=>forall_congr' fun _=>decide_eq_true_iff
theorem pE {ws:List Wk} {l:List Nat} (h:l≠[]):(gl ws l)[0]?=some (j8 ws l):=by
 obtain⟨i,hi,m⟩:=qT (be ws) l h
 have:=jp.mpr ⟨hi,m⟩
 unfold j8
 cases e:gl ws l with
 | nil=>rw [e] at this;cases this
 | cons a r=>rfl
theorem lZ {ws:List Wk} {l:List Nat} (h:l≠[]):j8 ws l∈l:=(jp.mp (List.mem_of_getElem? (pE h))).1
theorem t0 (n:Nat) (c:List Nat):(cC n c).Nodup:=List.Pairwise.filter _ List.nodup_range
theorem fe {n:Nat} {c:List Nat} {i:Nat}:i∈cC n c↔i < n/\i∉c:=by
 unfold cC
 rw [List.mem_filter,List.mem_range,Bool.not_eq_true',List.contains_eq_mem,decide_eq_false_iff_not]
theorem vf (n:Nat) (c:List Nat) (x:Nat):cC n (c++[x])=(cC n c).filter fun i=>decide (i≠x):=by
 unfold cC
 rw [List.filter_filter]
 refine List.filter_congr fun i _=>?_
 rw [Bool.eq_iff_iff,Bool.and_eq_true,Bool.not_eq_true',Bool.not_eq_true',List.contains_eq_mem,List.contains_eq_mem,decide_eq_false_iff_not,decide_eq_false_iff_not,decide_eq_true_iff,List.mem_append,List.mem_singleton]
 exact⟨fun h=>⟨fun z=>h (.inr z),fun z=>h (.inl z)⟩,fun h z=>z.elim h.2 h.1⟩
theorem re:∀ {l:List Nat} {j x:Nat},l.Nodup->l[j]?=some x->l.eraseIdx j=l.filter (fun i=>decide (i≠x))/\(l.eraseIdx j).length+1=l.length
 | [],j,x,_,h=>by simp at h
 | a :: l,0,x,nd,h=>by
  have e:a=x:=by simpa using h
  subst e
  obtain⟨n1,n2⟩:=List.nodup_cons.mp nd
  refine⟨?_,rfl⟩
  have e1:(a :: l).filter (fun i=>decide (i≠a))=l.filter (fun i=>decide (i≠a)):=List.filter_cons_of_neg (by simp)
  have e2:l.filter (fun i=>decide (i≠a))=l:=List.filter_eq_self.mpr fun i hi=>decide_eq_true fun z=>n1 (by rw [← z];exact hi)
  rw [e1,e2]
  rfl
 | a :: l,j+1,x,nd,h=>by
  obtain⟨n1,n2⟩:=List.nodup_cons.mp nd
  have h':l[j]?=some x:=by simpa using h
  obtain⟨e1,e2⟩:=re n2 h'
  have ne:a≠x:=fun z=>n1 (by rw [z];exact List.mem_of_getElem? h')
  have e3:(a :: l).filter (fun i=>decide (i≠x))=a :: l.filter (fun i=>decide (i≠x)):=List.filter_cons_of_pos (decide_eq_true ne)
  rw [List.eraseIdx_cons_succ,e3,← e1]
  refine⟨rfl,?_⟩
  rw [List.length_cons,List.length_cons,e2]
theorem Aw {l:List Nat} {j x:Nat} (nd:l.Nodup) (h:l[j]?=some x):∀ m,m < j->l[m]?≠some x:=fun m hm e=>by
 obtain⟨h1,e1⟩:=List.getElem?_eq_some_iff.mp e
 obtain⟨h2,e2⟩:=List.getElem?_eq_some_iff.mp h
 exact List.pairwise_iff_getElem.mp nd m j h1 h2 hm (e1.trans e2.symm)
structure tM (ws:List Wk) (k:Nat):Prop where
 len:(aS ws k).length=k
 lt:∀ i∈aS ws k,i < ws.length
 wl:(cC ws.length (aS ws k)).length+k=ws.length
theorem zL (ws:List Wk):tM ws 0:=by
 refine⟨rfl,fun i hi=>absurd (show i∈([]:List Nat) from hi) (by simp),?_⟩
 show (cC ws.length []).length+0=_
 unfold cC
 have e:(List.range ws.length).filter (fun i=>!([]:List Nat).contains i)=List.range ws.length:=List.filter_eq_self.mpr fun i _=>rfl
 rw [e,List.length_range]
 rfl
theorem tM.ne {ws:List Wk} {k:Nat} (h:tM ws k) (hk:k < ws.length):cC ws.length (aS ws k)≠[]:=fun z=>by
 have:=h.wl
 rw [z] at this
 have e:0+k=ws.length:=this
 omega
theorem tM.step {ws:List Wk} {k:Nat} (h:tM ws k) (hk:k < ws.length):tM ws (k+1)/\∃ j:Nat,(cC ws.length (aS ws k))[j]?=some (j8 ws (cC ws.length (aS ws k)))/\(cC ws.length (aS ws k)).eraseIdx j=cC ws.length (aS ws (k+1)):=by
 have m:=lZ (ws:=ws) (h.ne hk)
 obtain⟨j,hj⟩:=List.getElem?_of_mem m
 obtain⟨e1,e2⟩:=re (t0 _ _) hj
 have e3:(cC ws.length (aS ws k)).eraseIdx j=cC ws.length (aS ws (k+1)):=by
  rw [e1]
  exact (vf _ _ _).symm
 refine⟨⟨?_,fun i hi=>?_,?_⟩,j,hj,e3⟩
 ·show (aS ws k++[_]).length=k+1
  rw [List.length_append,h.len]
  rfl
 ·rcases List.mem_append.mp (show i∈aS ws k++[_] from hi) with z | z
  ·exact h.lt i z
  ·rw [List.mem_singleton.mp z]
   exact (fe.mp m).1
 ·rw [← e3]
  have:=h.wl
  omega
theorem dU {ws:List Wk}:∀ k,k≤ws.length->tM ws k
 | 0,_=>zL ws
 | k+1,h=>((dU k (Nat.le_of_succ_le h)).step h).1
structure eM (r:R):Prop where
 bq:Bq (84 * 5354228880 ^ 24) 256 r
 nn:0≤r.1
theorem eM.wf {r:R} (h:eM r):Wf 800 r:=h.bq.wf (by decide) (by decide) (by decide)
theorem eM.red {r:R} (h:eM r):iC r:=h.bq.red
theorem C4:eM (0,1):=⟨C1.mono (Nat.dvd_refl _) (by decide),Int.le_refl _⟩
theorem kQ {r:R} (h:0 < r.2):0≤val r↔0≤r.1:=by
 have zz:val ((0,1):R)=0:=(dX (r:=(0,1)) (by decide)).mpr rfl
 rw [← zz,← ia (r:=r) (q:=(0,1)) h (by decide),qR]
 show 0 * r.2≤r.1 * 1↔_
 omega
theorem pJ {r:R} {N:Nat} (hp:0 < r.2) (hn:0≤r.1):r.1.natAbs≤N * r.2.natAbs↔val r≤(N:Rat):=by
 have e:val (((N:Nat):Int),1)=(N:Rat):=by
  show (((N:Nat):Int):Rat) / ((1:Int):Rat)=_
  rw [show ((1:Int):Rat)=1 from rfl]
  have:(((N:Nat):Int):Rat)=(N:Rat):=rfl
  rw [this]
  grind
 rw [← e,← ia (r:=(((N:Nat):Int),1)) (q:=r) (by show (0:Int) < 1;decide) hp,qR]
 show _↔r.1 * 1≤(N:Int) * r.2
 have h1:((r.1.natAbs:Nat):Int)=r.1:=by omega
 have h2:((r.2.natAbs:Nat):Int)=r.2:=by omega
 rw [← Int.ofNat_le,Int.natCast_mul,h1,h2,Int.mul_one]
def d6 (a b:R):R:=if cS b a=true then b else a
theorem pH {a b:R} (ha:eM a) (hb:eM b):eM (d6 a b):=by
 unfold d6
 split
 ·exact hb
 ·exact ha
theorem F9 {a b:R} (ha:eM a) (hb:eM b):val (d6 a b)≤val a/\val (d6 a b)≤val b:=by
 unfold d6
 cases c:cS b a with
 | true=>
  rw [if_pos rfl]
  have:=(kW hb.bq.pos ha.bq.pos).mp c
  exact⟨Rat.le_of_lt this,Rat.le_refl⟩
 | false=>
  rw [if_neg Bool.false_ne_true]
  exact⟨Rat.le_refl,(ia hb.bq.pos ha.bq.pos).mp c⟩
theorem xE {x a:R} (hx:eM x) (ha:eM a) (h:val a≤val x):eM (bu x a):=by
 have b:=Bq.minus (by decide) hx.bq ha.bq
 have ev:val (bu x a)=val x - val a:=df hx.bq.pos ha.bq.pos
 have na:=(kQ ha.bq.pos).mpr ha.nn
 have nn:0≤(bu x a).1:=(kQ b.pos).mp (by rw [ev];grind)
 refine⟨⟨b.pos,b.cop,b.dvd,(pJ b.pos nn).mpr ?_⟩,nn⟩
 have:=(pJ hx.bq.pos hx.nn).mp hx.bq.le
 rw [ev]
 grind
abbrev Pc:=Nat×R
abbrev tQ:=List R×R×List Pc
def bS (ws:List Wk) (t:Nat) (st:tQ) (i:Nat):tQ:=
 if gm (ws.getD i bC) t=true/\d6 (st.1.getD i (0,1)) st.2.1≠(0,1) then (st.1.set i (bu (st.1.getD i (0,1)) (d6 (st.1.getD i (0,1)) st.2.1)),bu st.2.1 (d6 (st.1.getD i (0,1)) st.2.1),st.2.2++[(i,d6 (st.1.getD i (0,1)) st.2.1)]) else st
def eU (ws:List Wk) (ord:List Nat) (t:Nat) (lf:List R) (sp:R):tQ:=ord.foldl (bS ws t) (lf,sp,[])
def bb (ws:List Wk) (ord:List Nat) (ss:List R):Nat->List R×List (List Pc)
 | 0=>(ws.map fun w=>w.2.2,[])
 | t+1=>((eU ws ord t (bb ws ord ss t).1 (ss.getD t (0,1))).1,(bb ws ord ss t).2++[(eU ws ord t (bb ws ord ss t).1 (ss.getD t (0,1))).2.2])
structure wO (n:Nat) (st:tQ):Prop where
 len:st.1.length=n
 lf:∀ r∈st.1,eM r
 rm:eM st.2.1
 pc:∀ p∈st.2.2,p.1 < n/\eM p.2
theorem fo {n:Nat} {l:List R} (h:∀ r∈l,eM r) (i:Nat):eM (l.getD i (0,1)):=by
 rw [List.getD_eq_getElem?_getD]
 cases e:l[i]? with
 | none=>exact C4
 | some r=>exact h r (List.mem_of_getElem? e)
theorem wO.step {ws:List Wk} {n t i:Nat} {st:tQ} (h:wO n st) (hi:i < n):wO n (bS ws t st i)/\(bS ws t st i).2.2.length≤st.2.2.length+1:=by
 unfold bS
 split
 ·have a:=fo (n:=n) h.lf i
  have le:=F9 a h.rm
  have la:=pH a h.rm
  refine⟨⟨by rw [List.length_set];exact h.len,fun r hr=>?_,xE h.rm la le.2,fun p hp=>?_⟩,by rw [List.length_append];exact Nat.le_refl _⟩
  ·rcases List.mem_or_eq_of_mem_set hr with z | z
   ·exact h.lf r z
   ·rw [z];exact xE a la le.1
  ·rcases List.mem_append.mp hp with z | z
   ·exact h.pc p z
   ·rw [List.mem_singleton.mp z];exact⟨hi,la⟩
 ·exact⟨h,Nat.le_succ _⟩
theorem wO.fold {ws:List Wk} {n t:Nat}:∀ {ord:List Nat} {st:tQ},wO n st->(∀ i∈ord,i < n)->wO n (ord.foldl (bS ws t) st)/\(ord.foldl (bS ws t) st).2.2.length≤st.2.2.length+ord.length
 | [],st,h,_=>⟨h,Nat.le_refl _⟩
 | i :: ord,st,h,hl=>by
  obtain⟨h1,l1⟩:=h.step (ws:=ws) (t:=t) (hl i List.mem_cons_self)
  obtain⟨h2,l2⟩:=h1.fold (ws:=ws) (t:=t) (ord:=ord) fun j hj=>hl j (List.mem_cons_of_mem _ hj)
  refine⟨h2,?_⟩
  rw [List.foldl_cons,List.length_cons]
  omega
structure Nw (n m:Nat) (p:List R×List (List Pc)):Prop where
 len:p.1.length=n
 lf:∀ r∈p.1,eM r
 pc:∀ q∈p.2,q.length≤m/\∀ x∈q,x.1 < n/\eM x.2
theorem fk {ws:List Wk} {ord:List Nat} {ss:List R} (okw:∀ w∈ws,bF w) (ho:∀ i∈ord,i < ws.length) (hs:∀ r∈ss,eM r):∀ t,Nw ws.length ord.length (bb ws ord ss t)/\(bb ws ord ss t).2.length=t
 | 0=>by
  refine⟨⟨List.length_map _,fun r hr=>?_,fun q hq=>by cases hq⟩,rfl⟩
  obtain⟨w,hw,rfl⟩:=List.mem_map.mp hr
  have a:=(okw w hw).am
  exact⟨(uS a).mono ⟨5354228880,by decide⟩ (by decide),by have:=a.top;omega⟩
 | t+1=>by
  obtain⟨h,hl⟩:=fk okw ho hs t
  obtain⟨d,dl⟩:=wO.fold (ws:=ws) (t:=t) (ord:=ord) (st:=((bb ws ord ss t).1,ss.getD t (0,1),[])) ⟨h.len,h.lf,fo (n:=0) hs t,fun p hp=>by cases hp⟩ ho
  refine⟨⟨d.len,d.lf,fun q hq=>?_⟩,?_⟩
  ·rcases List.mem_append.mp (show q∈(bb ws ord ss t).2++[_] from hq) with z | z
   ·exact h.pc q z
   ·rw [List.mem_singleton.mp z]
    refine⟨?_,d.pc⟩
    have:(eU ws ord t (bb ws ord ss t).1 (ss.getD t (0,1))).2.2.length≤0+ord.length:=dl
    omega
  ·show ((bb ws ord ss t).2++[_]).length=t+1
   rw [List.length_append,hl]
   rfl
def nK (lf:List R):Option Nat:=(List.range lf.length).find? fun i=>decide (lf.getD i (0,1)≠(0,1))
theorem vY {lf:List R} {i:Nat} (hi:i < lf.length) (h:lf.getD i (0,1)≠(0,1)) (b:∀ j,j < i->lf.getD j (0,1)=(0,1)):nK lf=some i:=by
 unfold nK
 rw [List.find?_range_eq_some]
 exact⟨decide_eq_true h,List.mem_range.mpr hi,fun j hj=>by rw [decide_eq_false (fun z=>z (b j hj))];rfl⟩
theorem vZ {lf:List R} (b:∀ j,j < lf.length->lf.getD j (0,1)=(0,1)):nK lf=none:=by
 unfold nK
 rw [List.find?_eq_none]
 intro j hj z
 exact (of_decide_eq_true z) (b j (List.mem_range.mp hj))
noncomputable def c5 (ws:List Wk) (ss:List R):List R×List (List Pc):=bb ws (aS ws ws.length) ss 24
def wW (K:PySem.W.Frag) (H:Hp) (v:V) (c:Pc):Prop:=∃ p x,v=.ref p/\bt K H p [.int (c.1:Nat),x]/\RV K H x c.2
theorem wW.mono {K:PySem.W.Frag} {H H':Hp} {v:V} {c:Pc} (h:wW K H v c) (t:aN K H H'):wW K H' v c:=let ⟨p,x,e,s,r⟩:=h;⟨p,x,e,t _ _ s,r.mono t⟩
def rp (K:PySem.W.Frag) (H:Hp) (v:V) (q:List Pc):Prop:=∃ p xs,v=.ref p/\bt K H p xs/\cn (wW K H) xs q
theorem rp.mono {K:PySem.W.Frag} {H H':Hp} {v:V} {q:List Pc} (h:rp K H v q) (t:aN K H H'):rp K H' v q:=let ⟨p,x,e,s,r⟩:=h;⟨p,x,e,t _ _ s,r.mono fun _ _ z=>z.mono t⟩
def KR (c:Pc):PyData:=.tuple [.int (c.1:Nat),dR c.2]
def KO (q:List Pc):PyData:=.tuple (q.map KR)
def KQ (ps:List (List Pc)):PyData:=.tuple (ps.map KO)
theorem wW.deep {K:PySem.W.Frag} {H:Hp} {v:V} {c:Pc} (h:wW K H v c):bw K H v (KR c):=by
 obtain⟨p,x,rfl,hS,hx⟩:=h
 exact .tup hS (.cons (.int _) (.cons hx.deep .nil))
theorem rp.deep {K:PySem.W.Frag} {H:Hp} {v:V} {q:List Pc} (h:rp K H v q):bw K H v (KO q):=by
 obtain⟨p,xs,rfl,hS,al⟩:=h
 exact .tup hS (al.deep fun _ _ z=>z.deep)
def AU (K:PySem.W.Frag) (H:Hp) (v:V) (rs:List R):Prop:=∃ p xs,v=.ref p/\bt K H p xs/\cn (RV K H) xs rs
structure GT (N:Nat) (r:R):Prop where
 bq:Bq (84 * 5354228880 ^ 24) N r
 nn:0≤r.1
theorem GT.am {N:Nat} {r:R} (h:GT N r) (hN:N≤256):eM r:=⟨h.bq.mono (Nat.dvd_refl _) hN,h.nn⟩
theorem Ea {ws:List Wk} {y:Ly} (ok:∀ w∈ws,bF w) (hw:ws.length≤20) (lok:j5 ws.length y):GT 240 (c8 ws y):=by
 have b:=BL ok hw lok
 refine⟨b.mono (Gz _ (by have:=lok.few;omega) lok.pos) (Nat.le_refl _),?_⟩
 have nn:0≤(eW (gW ws y)).1:=by
  have go:∀ (l:List R) (a:R),iC a->0≤a.1->(∀ r∈l,GS r)->0≤(l.foldl bM a).1:=by
   intro l
   induction l with
   | nil=>intro a _ na _;exact na
   | cons r l ih=>
    intro a ra na hl
    have h:=hl r List.mem_cons_self
    have hr:iC r:=⟨by have:=h.bot;omega,h.wf.cop⟩
    exact ih (bM a r) (jo (Int.mul_pos ra.pos hr.pos)) (B3 ra hr na (by have:=h.top;omega)) fun q hq=>hl q (List.mem_cons_of_mem _ hq)
  refine go _ (0,1) ⟨by decide,by decide⟩ (by decide) fun r hr=>?_
  obtain⟨i,hi,rfl⟩:=List.mem_map.mp hr
  have hl:=lok.num i hi
  rw [av bC (List.getElem?_eq_getElem hl)]
  exact (ok _ (List.getElem_mem hl)).am
 show 0≤(eG ((eW (gW ws y)).1 * 1) _).1
 exact z8 (by omega)
theorem xI {ws:List Wk} (ok:∀ w∈ws,bF w) (hw:ws.length≤20):∀ {lys:List Ly} {ss:List R},(∀ y∈lys,j5 ws.length y)->(∀ r∈ss,GT 240 r)->∀ r∈lys.foldl (fun ss y=>ix (c8 ws y) ss y.1) ss,GT 240 r
 | [],ss,_,h=>h
 | y :: lys,ss,hl,h=>by
  refine xI (lys:=lys) ok hw (fun z hz=>hl z (List.mem_cons_of_mem _ hz)) ?_
  have sp:=Ea ok hw (hl y List.mem_cons_self)
  have go:∀ (ts:List Nat) (ss:List R),(∀ r∈ss,GT 240 r)->∀ r∈ix (c8 ws y) ss ts,GT 240 r:=by
   intro ts
   induction ts with
   | nil=>intro ss h;exact h
   | cons t ts ih=>
    intro ss h
    refine ih (ss.set t (c8 ws y)) fun r hr=>?_
    rcases List.mem_or_eq_of_mem_set hr with z | z
    ·exact h r z
    ·rw [z];exact sp
  exact go y.1 ss h
inductive mI (K:PySem.W.Frag) (vs:List V) (H:Hp) (Q:VK):Prop where
 | mk (v w:V) (r q:R) (h0_:vs=[v,w]) (h1_:RV K H v r) (h2_:RV K H w q) (h3_:eM r) (h4_:eM q) (h5_:∀ u,RV K H u (d6 r q)->Q u H):mI K vs H Q
def vB (K:PySem.W.Frag):Sp:=fun vs H Q _=>mI K vs H Q
structure Mz (K:PySem.W.Frag) (H:Hp) (v:V) (b:Addr) (ws:List Wk):Prop where
 wv:eD K H v ws
 w8:ws.length≤20
 ok:∀ w∈ws,bF w
 lv:bt K H b []
inductive fz (K:PySem.W.Frag) (vs:List V) (H:Hp) (Q:VK):Prop where
 | mk (v:V) (l wl:Addr) (ws:List Wk) (rows:List Addr) (ls:List Nat) (h0_:vs=[v,.ref l,.ref wl]) (h1_:eD K H v ws) (h2_:ws.length≤20) (h3_:De H l rows ws.length (fun _ _=>false)) (h4_:aU K H wl (ba ls)) (h5_:(∀ i∈ls,i < ws.length)) (h6_:ls≠[]) (h7_:ls.length≤20) (h8_:∀ H',aB H H'->Q (.int (j8 ws ls:Nat)) H'):fz K vs H Q
def jQ (K:PySem.W.Frag):Sp:=fun vs H Q _=>fz K vs H Q
inductive jA (K:PySem.W.Frag) (vs:List V) (H:Hp) (Q:VK):Prop where
 | mk (v:V) (b:Addr) (ws:List Wk) (h0_:vs=[v,.ref b]) (h1_:Mz K H v b ws) (h2_:∀ (l:Addr) (H':Hp),aB H H'->H l=none->H' l=some (.lst (ba (aS ws ws.length)))->Q (.ref l) H'):jA K vs H Q
def ql (K:PySem.W.Frag):Sp:=fun vs H Q _=>jA K vs H Q
inductive iP (K:PySem.W.Frag) (vs:List V) (H:Hp) (Q:VK):Prop where
 | mk (v u:V) (o lf:Addr) (ws:List Wk) (ord:List Nat) (xs:List V) (rs:List R) (t:Nat) (sp:R) (h0_:vs=[v,.ref o,.ref lf,.int (t:Nat),u]) (h1_:eD K H v ws) (h2_:H o=some (.lst (ba ord))) (h3_:H lf=some (.lst xs)) (h4_:o≠lf) (h5_:cn (RV K H) xs rs) (h6_:rs.length=ws.length) (h7_:(∀ r∈rs,eM r)) (h8_:RV K H u sp) (h9_:eM sp) (h10_:(∀ i∈ord,i < ws.length)) (h11_:ord.length≤20) (h12_:∀ (w:V) (ys:List V) (H':Hp),dB lf H H'->H' lf=some (.lst ys)->cn (RV K H') ys (eU ws ord t rs sp).1->rp K H' w (eU ws ord t rs sp).2.2->Q w H'):iP K vs H Q
def oI (K:PySem.W.Frag):Sp:=fun vs H Q _=>iP K vs H Q
inductive om (K:PySem.W.Frag) (vs:List V) (H:Hp) (Q:VK):Prop where
 | mk (v s:V) (b:Addr) (ws:List Wk) (ss:List R) (h0_:vs=[v,.ref b,s]) (h1_:Mz K H v b ws) (h2_:AU K H s ss) (h3_:ss.length=24) (h4_:(∀ r∈ss,eM r)) (h5_:nK (c5 ws ss).1=none) (h6_:∀ (w:V) (H':Hp),aB H H'->bw K H' w (KQ (c5 ws ss).2)->Q w H'):om K vs H Q
def xO (K:PySem.W.Frag):Sp:=fun vs H Q _=>om K vs H Q
inductive iK (K:PySem.W.Frag) (C:Addr) (vs:List V) (H:Hp) (Q:VK):Prop where
 | mk (x dd:Addr) (fs:List (Str×V)) (h0_:vs=[.ref x]) (h1_:H x=some (Jd x C dd)) (h2_:H dd=some (dO dd fs)) (h3_:∀ (l:Addr) (H':Hp),aB H H'->H' l=some (.lst [.bl true,.bl true,.bl true,.bl false])->Q (.ref l) H'):iK K C vs H Q
def Bx (K:PySem.W.Frag) (C:Addr):Sp:=fun vs H Q _=>iK K C vs H Q
def bD (b:Bool) (x:Rat):Rat:=if b=true then x else 0
theorem cm (x:Rat):bD true x=x:=rfl
theorem bJ (x:Rat):bD false x=0:=rfl
def sQ {α:Type} (f:α->Rat):List α->Rat
 | []=>0
 | x :: l=>f x+sQ f l
theorem iB {α:Type} {f g:α->Rat}:∀ {l:List α},(∀ x∈l,f x≤g x)->sQ f l≤sQ g l
 | [],_=>Rat.le_refl
 | x :: l,h=>by
  have a:=h x List.mem_cons_self
  have b:=iB (l:=l) fun y hy=>h y (List.mem_cons_of_mem _ hy)
  show f x+sQ f l≤g x+sQ g l
  grind
theorem aE {α:Type} {f g:α->Rat}:∀ {l:List α},(∀ x∈l,f x=g x)->sQ f l=sQ g l
 | [],_=>rfl
 | x :: l,h=>by
  show f x+sQ f l=g x+sQ g l
  rw [h x List.mem_cons_self,aE fun y hy=>h y (List.mem_cons_of_mem _ hy)]
theorem dJ {α:Type} {f g:α->Rat}:∀ l:List α,sQ (fun x=>f x+g x) l=sQ f l+sQ g l
 | []=>by show (0:Rat)=0+0;grind
 | x :: l=>by
  show f x+g x+sQ (fun x=>f x+g x) l=(f x+sQ f l)+(g x+sQ g l)
  rw [dJ l]
  grind
theorem c9 {α:Type} (c:Rat) {f:α->Rat}:∀ l:List α,sQ (fun x=>c * f x) l=c * sQ f l
 | []=>by show (0:Rat)=c * 0;grind
 | x :: l=>by
  show c * f x+sQ (fun x=>c * f x) l=c * (f x+sQ f l)
  rw [c9 c l]
  grind
theorem dI {α:Type} {f:α->Rat}:∀ a b:List α,sQ f (a++b)=sQ f a+sQ f b
 | [],b=>by show sQ f b=0+sQ f b;grind
 | x :: a,b=>by
  show f x+sQ f (a++b)=(f x+sQ f a)+sQ f b
  rw [dI a b]
  grind
theorem fM {α:Type} {f:α->Rat} (c:α->Bool):∀ l:List α,sQ f (l.filter c)=sQ (fun x=>bD (c x) (f x)) l
 | []=>rfl
 | x :: l=>by
  have ih:=fM (f:=f) c l
  cases e:c x with
  | true=>
   rw [List.filter_cons_of_pos e]
   show f x+sQ f (l.filter c)=bD (c x) (f x)+sQ _ l
   rw [ih,e];rfl
  | false=>
   rw [List.filter_cons_of_neg (by rw [e];simp)]
   show sQ f (l.filter c)=bD (c x) (f x)+sQ _ l
   rw [ih,e,bJ]
   grind
theorem i5 {α β:Type} {f:β->Rat} (m:α->β):∀ l:List α,sQ f (l.map m)=sQ (fun x=>f (m x)) l
 | []=>rfl
 | x :: l=>by
  show f (m x)+sQ f (l.map m)=f (m x)+sQ _ l
  rw [i5 m l]
theorem lP {α:Type} {f:α->Rat} {l:List α} (h:∀ x∈l,0≤f x):0≤sQ f l:=by
 have:=iB (f:=fun _:α=>(0:Rat)) (g:=f) (l:=l) h
 have z:∀ l:List α,sQ (fun _:α=>(0:Rat)) l=0:=fun l=>by
  induction l with
  | nil=>rfl
  | cons x l ih=>show (0:Rat)+_=0;rw [ih];grind
 rw [z] at this
 exact this
theorem gc {α:Type} {f:α->Rat} (d:α) (l:List α):sQ f l=sQ (fun i=>f (l.getD i d)) (List.range l.length):=by
 have e:=cR (β:=α) d id l
 have e':(List.range l.length).filter (fun _=>true)=List.range l.length:=by simp
 rw [e',List.map_id] at e
 have:=i5 (f:=f) (fun i=>id (l.getD i d)) (List.range l.length)
 rw [e] at this
 exact this
def jw (P:Nat->Bool):Rat:=sQ (fun t=>bD (P t) 1) (List.range 24)
theorem dM (b:Bool) {x:Rat} (h:0≤x):0≤bD b x:=by cases b with | true=>exact h | false=>exact Rat.le_refl
theorem zN:(0:Rat)≤1:=by decide +kernel
theorem AJ (P:Nat->Bool):0≤jw P:=lP fun _ _=>dM _ zN
theorem jZ {P Q:Nat->Bool} (h:∀ t,t < 24->P t=Q t):jw P=jw Q:=aE fun t ht=>by rw [h t (List.mem_range.mp ht)]
theorem fQ {P Q X:Nat->Bool} (h:∀ t,t < 24->bD (X t) 1=bD (P t) 1+bD (Q t) 1):jw X=jw P+jw Q:=by
 unfold jw
 rw [← dJ]
 exact aE fun t ht=>h t (List.mem_range.mp ht)
theorem pU {P:Nat->Bool} {t:Nat} (ht:t < 24) (h:P t=true):0 < jw P:=by
 have e:=fQ (X:=P) (P:=fun u=>decide (u=t)) (Q:=fun u=>P u && !decide (u=t)) (fun u _=>by
  by_cases c:u=t
  ·subst c;rw [h,decide_eq_true rfl];show (1:Rat)=1+0;grind
  ·rw [decide_eq_false c,Bool.not_false,Bool.and_true];show bD (P u) 1=0+bD (P u) 1;grind)
 have n:=AJ fun u=>P u && !decide (u=t)
 have o:jw (fun u=>decide (u=t))=1:=by
  have:∀ t:Fin 24,jw (fun u=>decide (u=t.1))=1:=by decide +kernel
  exact this ⟨t,ht⟩
 rw [o] at e
 grind
theorem sd {P:Nat->Bool} {x:Nat}:∀ d,(∀ i,x≤i->i < x+d->P i=true)->sQ (fun t=>bD (P t) 1) (List.range (x+d))=sQ (fun t=>bD (P t) 1) (List.range x)+(d:Rat)
 | 0,_=>by show sQ _ (List.range x)=sQ _ (List.range x)+((0:Nat):Rat);rw [show ((0:Nat):Rat)=0 from rfl];grind
 | d+1,h=>by
  have ih:=sd (P:=P) (x:=x) d fun i a b=>h i a (by omega)
  rw [← Nat.add_assoc,List.range_succ,dI,ih]
  show _+(bD (P (x+d)) 1+0)=_
  rw [h (x+d) (by omega) (by omega),cm,show ((d+1:Nat):Rat)=(d:Rat)+1 from Rat.natCast_add d 1]
  grind
theorem oU {P:Nat->Bool} {x:Nat}:∀ d,(∀ i,x≤i->i < x+d->P i=false)->sQ (fun t=>bD (P t) 1) (List.range (x+d))=sQ (fun t=>bD (P t) 1) (List.range x)
 | 0,_=>rfl
 | d+1,h=>by
  have ih:=oU (P:=P) (x:=x) d fun i a b=>h i a (by omega)
  rw [← Nat.add_assoc,List.range_succ,dI,ih]
  show _+(bD (P (x+d)) 1+0)=_
  rw [h (x+d) (by omega) (by omega),bJ]
  grind
theorem lQ (P:Nat->Bool):∀ k,∃ x,x≤k/\(∀ i,x≤i->i < k->P i=true)/\(x=0∨P (x - 1)=false)
 | 0=>⟨0,Nat.le_refl _,fun i a b=>by omega,.inl rfl⟩
 | k+1=>by
  cases c:P k with
  | false=>exact⟨k+1,Nat.le_refl _,fun i a b=>by omega,.inr c⟩
  | true=>
   obtain⟨x,h1,h2,h3⟩:=lQ P k
   refine⟨x,by omega,fun i a b=>?_,h3⟩
   by_cases z:i=k
   ·rw [z];exact c
   ·exact h2 i a (by omega)
def f6 (A:Nat->Bool) (w:Wk):Bool:=(List.range 24).all fun t=>!gm w t || A t
theorem ca {A:Nat->Bool} {w:Wk}:f6 A w=true↔∀ t,t < 24->gm w t=true->A t=true:=by
 unfold f6
 rw [List.all_eq_true]
 constructor
 ·intro h t ht e
  have:=h t (List.mem_range.mpr ht)
  rw [e] at this
  simpa using this
 ·intro h t ht
  cases e:gm w t with
  | false=>rfl
  | true=>rw [h t (List.mem_range.mp ht) e];rfl
theorem ff {A A':Nat->Bool} {w:Wk} (h:∀ t,t < 24->A t=true->A' t=true) (q:f6 A w=true):f6 A' w=true:=ca.mpr fun t ht e=>h t ht (ca.mp q t ht e)
def gE (w:Wk):Rat:=val w.2.2
def FM (ws:List Wk) (A:Nat->Bool):Rat:=sQ (fun w=>bD (f6 A w) (gE w)) ws
theorem AN {w:Wk} (h:bF w):0 < gE w:=by
 have a:=h.am
 show 0 < val w.2.2
 unfold val
 have h1:(0:Rat) < (w.2.2.1:Rat):=Rat.intCast_lt_intCast.mpr (show (0:Int) < w.2.2.1 by have:=a.top;omega)
 have h2:(0:Rat) < (w.2.2.2:Rat):=Rat.intCast_lt_intCast.mpr (show (0:Int) < w.2.2.2 by have:=a.bot;omega)
 generalize (w.2.2.1:Rat)=x at *
 generalize (w.2.2.2:Rat)=y at *
 exact (Rat.lt_div_iff h2).mpr (by grind)
theorem mF {ws:List Wk} (ok:∀ w∈ws,bF w):∀ w∈ws,0≤gE w:=fun w hw=>Rat.le_of_lt (AN (ok w hw))
theorem sU {b c:Bool} {x:Rat} (hx:0≤x) (h:b=true->c=true):bD b x≤bD c x:=by
 cases b with
 | false=>exact dM c hx
 | true=>rw [h rfl];exact Rat.le_refl
theorem Dh {ws:List Wk} (nn:∀ w∈ws,0≤gE w) {A A':Nat->Bool} (h:∀ t,t < 24->A t=true->A' t=true):FM ws A≤FM ws A':=iB fun w hw=>sU (nn w hw) (ff h)
theorem mO {ws:List Wk} (nn:∀ w∈ws,0≤gE w) (A B:Nat->Bool):FM ws A+FM ws B≤FM ws (fun t=>A t || B t)+FM ws (fun t=>A t && B t):=by
 unfold FM
 rw [← dJ,← dJ]
 refine iB fun w hw=>?_
 have x:=nn w hw
 have o1:f6 A w=true->f6 (fun t=>A t || B t) w=true:=ff fun t _ e=>by rw [e];rfl
 have o2:f6 B w=true->f6 (fun t=>A t || B t) w=true:=ff fun t _ e=>by rw [e,Bool.or_true]
 have o3:f6 A w=true->f6 B w=true->f6 (fun t=>A t && B t) w=true:=fun a b=>ca.mpr fun t ht e=>by rw [ca.mp a t ht e,ca.mp b t ht e];rfl
 have n3:=dM (f6 (fun t=>A t && B t) w) x
 cases a:f6 A w with
 | true=>
  cases b:f6 B w with
  | true=>rw [o1 a,o3 a b];exact Rat.le_refl
  | false=>rw [o1 a,cm,bJ];grind
 | false=>
  cases b:f6 B w with
  | true=>rw [o2 b,cm,bJ];grind
  | false=>
   have n4:=dM (f6 (fun t=>A t || B t) w) x
   rw [bJ];grind
theorem iS {q:Nat->Bool} {w:Wk}:(bx ((List.range 24).filter q) w).isSome=!f6 (fun t=>!q t) w:=by
 rw [Bool.eq_iff_iff,gG]
 constructor
 ·rintro⟨t,ht,e⟩
  obtain⟨h1,h2⟩:=List.mem_filter.mp ht
  cases c:f6 (fun t=>!q t) w with
  | false=>rfl
  | true=>
   have:=ca.mp c t (List.mem_range.mp h1) e
   rw [h2] at this
   cases this
 ·intro h
  apply Classical.byContradiction
  intro n
  have:f6 (fun t=>!q t) w=true:=ca.mpr fun t ht e=>by
   cases c:q t with
   | false=>rfl
   | true=>exact absurd ⟨t,List.mem_filter.mpr ⟨List.mem_range.mpr ht,c⟩,e⟩ n
  rw [this] at h
  cases h
def dh (ls:List Nat) (p:Pl) (w:Wk):Bool:=gr p.1 p.2 (bx ls w)
def SM (ws:List Wk) (ls:List Nat) (p:Pl):Rat:=sQ (fun w=>bD (dh ls p w) (gE w)) ws
theorem uG (ws:List Wk) (ls:List Nat) (p:Pl):cc (ws.map (bx ls)) p=(List.range ws.length).filter fun i=>dh ls p (ws.getD i bC):=by
 unfold cc dh
 rw [List.length_map]
 refine List.filter_congr fun i hi=>?_
 have hl:=List.mem_range.mp hi
 have h:=List.getElem?_eq_getElem hl
 rw [av bC h,av none (show (ws.map (bx ls))[i]?=some (bx ls ws[i]) by rw [List.getElem?_map,h];rfl)]
theorem AM (ws:List Wk) (ls:List Nat) (p:Pl):gW ws (gP ws ls p)=(ws.filter (dh ls p)).map fun w=>w.2.2:=by
 unfold gW gP
 rw [uG]
 exact fh bC (dh ls p) (fun w:Wk=>w.2.2) ws
theorem ou:∀ rs:List R,iU rs=sQ val rs
 | []=>rfl
 | r :: rs=>by
  show val r+iU rs=val r+sQ val rs
  rw [ou rs]
theorem Bc (ws:List Wk) (ls:List Nat) (p:Pl):iU (gW ws (gP ws ls p))=SM ws ls p:=by
 rw [AM,ou,i5]
 exact fM _ ws
theorem w9 {w:Wk} (h:bF w):((w.2.2.1 * (84 * 5354228880 ^ 23) / w.2.2.2:Int):Rat)=(84 * 5354228880 ^ 23) * gE w:=by
 obtain⟨n,hn⟩:=h.am.dvd
 have b:=h.am.bot
 have e:w.2.2.1 * (84 * 5354228880 ^ 23) / w.2.2.2=w.2.2.1 * n:=by
  rw [hn,Int.mul_left_comm]
  exact Int.mul_ediv_cancel_left _ (by omega)
 have e2:((84 * 5354228880 ^ 23):Rat)=(w.2.2.2:Rat) * (n:Rat):=by
  rw [← Rat.intCast_mul,← hn];first | (rw [Rat.intCast_mul,Rat.intCast_pow];rfl) | simp | grind
 have nz:(w.2.2.2:Rat)≠0:=cK (by omega)
 rw [e,Rat.intCast_mul,e2]
 show _=_ * val w.2.2
 unfold val
 generalize (w.2.2.1:Rat)=x at *
 generalize (w.2.2.2:Rat)=y at *
 generalize (n:Rat)=z at *
 grind
theorem qh:∀ l:List Int,((l.sum:Int):Rat)=sQ (fun x:Int=>(x:Rat)) l
 | []=>rfl
 | x :: l=>by
  rw [List.sum_cons,Rat.intCast_add,qh l]
  rfl
theorem uE {ws:List Wk} (ok:∀ w∈ws,bF w) (ls:List Nat) (p:Pl):((cY (ws.map (bx ls)) (io (ci ws)) p:Int):Rat)=(84 * 5354228880 ^ 23) * SM ws ls p:=by
 unfold cY
 have e:(cc (ws.map (bx ls)) p).map (io (ci ws))=(ws.filter (dh ls p)).map fun w=>w.2.2.1 * (84 * 5354228880 ^ 23) / w.2.2.2:=by
  rw [uG,← fh bC (dh ls p) (fun w:Wk=>w.2.2.1 * (84 * 5354228880 ^ 23) / w.2.2.2) ws]
  refine List.map_congr_left fun i hi=>?_
  have h:=List.getElem?_eq_getElem (List.mem_range.mp (List.mem_filter.mp hi).1)
  rw [av bC h]
  exact av 0 (by unfold ci;rw [List.getElem?_map,h];rfl)
 rw [e,qh,i5,fM]
 unfold SM
 rw [← c9]
 refine aE fun w hw=>?_
 rw [w9 (ok w hw)]
 cases dh ls p w with
 | true=>rfl
 | false=>show (0:Rat)=(84 * 5354228880 ^ 23) * 0;grind
theorem jr {n:Nat} {p:Pl} (h:ir n p):(0:Rat) < (bO p:Rat):=Rat.intCast_lt_intCast.mpr h.pos
theorem xh {ws:List Wk} {ls:List Nat} {p r:Pl} (ok:∀ w∈ws,bF w) (h:A9 ws ls p) (hr:ir ls.length r):SM ws ls r * (bO p:Rat)≤SM ws ls p * (bO r:Rat):=by
 have a:cY (ws.map (bx ls)) (io (ci ws)) r * bO p≤cY (ws.map (bx ls)) (io (ci ws)) p * bO r:=by
  rcases h.1.all r hr with z | ⟨z,_⟩ <;> omega
 have b:=Rat.intCast_le_intCast.mpr a
 rw [Rat.intCast_mul,Rat.intCast_mul,uE ok,uE ok] at b
 generalize SM ws ls r=x at *
 generalize SM ws ls p=y at *
 generalize (bO p:Rat)=u at *
 generalize (bO r:Rat)=v at *
 grind
theorem wc {ls:List Nat} {p:Pl} {w:Wk} (h:dh ls p w=true):(bx ls w).isSome=true:=by
 unfold dh at h
 cases c:bx ls w with
 | none=>rw [c] at h;cases h
 | some x=>rfl
theorem Ao {ls:List Nat} {p:Pl} {w:Wk} {a b:Nat} (e:bx ls w=some (a,b)):dh ls p w=(decide (p.1≤a) && decide (b≤p.2)):=by
 unfold dh
 rw [e]
 rfl
def nx (q:Nat->Bool) (p:Pl):Nat->Bool:=fun t=>!(cQ ((List.range 24).filter q) p).contains t && q t
theorem ji (q:Nat->Bool) (p:Pl):dj ((List.range 24).filter q) p=(List.range 24).filter (nx q p):=by
 unfold dj nx
 rw [List.filter_filter]
theorem DH (q:Nat->Bool):((List.range 24).filter q).Nodup:=List.Pairwise.filter _ List.nodup_range
theorem II {ws:List Wk} {q:Nat->Bool} {p:Pl} (hp:ir ((List.range 24).filter q).length p):FM ws (fun t=>!nx q p t)=FM ws (fun t=>!q t)+SM ws ((List.range 24).filter q) p:=by
 unfold FM SM
 rw [← dJ]
 refine aE fun w _=>?_
 have e:=nB (w:=w) (DH q) hp
 rw [ji,iS,iS] at e
 have hs:=wc (ls:=(List.range 24).filter q) (p:=p) (w:=w)
 rw [iS] at hs
 show bD (f6 _ w) _=bD (f6 _ w) _+bD (dh _ p w) _
 have e':f6 (fun t=>!nx q p t) w=(f6 (fun t=>!q t) w || dh ((List.range 24).filter q) p w):=by
  have:gr p.1 p.2 (bx ((List.range 24).filter q) w)=dh ((List.range 24).filter q) p w:=rfl
  rw [this] at e
  cases a:f6 (fun t=>!nx q p t) w <;> cases b:f6 (fun t=>!q t) w <;> cases c:dh ((List.range 24).filter q) p w <;> rw [a,b,c] at e <;> first | rfl | cases e
 rw [e']
 cases b:f6 (fun t=>!q t) w with
 | true=>
  cases c:dh ((List.range 24).filter q) p w with
  | true=>rw [b] at hs;cases hs c
  | false=>show gE w=gE w+0;grind
 | false=>
  cases c:dh ((List.range 24).filter q) p w with
  | true=>show gE w=0+gE w;grind
  | false=>show (0:Rat)=0+0;grind
theorem AK (q P:Nat->Bool):jw (fun t=>q t && P t)=sQ (fun i=>bD (P (((List.range 24).filter q).getD i 0)) 1) (List.range ((List.range 24).filter q).length):=by
 rw [← gc (f:=fun t=>bD (P t) 1) 0 ((List.range 24).filter q),fM]
 refine aE fun t _=>?_
 show bD (q t && P t) 1=bD (q t) (bD (P t) 1)
 cases q t <;> rfl
theorem zY {q:Nat->Bool} {p:Pl} (hp:ir ((List.range 24).filter q).length p):jw (fun t=>q t && !nx q p t)=(bO p:Rat):=by
 have e1:jw (fun t=>q t && !nx q p t)=jw (fun t=>q t && (cQ ((List.range 24).filter q) p).contains t):=jZ fun t _=>by
  unfold nx
  cases q t <;> cases (cQ ((List.range 24).filter q) p).contains t <;> rfl
 rw [e1,AK]
 have h1:=hp.1
 have h2:=hp.2
 have e2:sQ (fun i=>bD ((cQ ((List.range 24).filter q) p).contains (((List.range 24).filter q).getD i 0)) 1) (List.range ((List.range 24).filter q).length)=sQ (fun i=>bD (decide (p.1≤i) && decide (i≤p.2)) 1) (List.range ((List.range 24).filter q).length):=aE fun i hi=>by
  have hi':=List.mem_range.mp hi
  have m:=pG (DH q) hp hi'
  rw [av 0 (List.getElem?_eq_getElem hi')]
  congr 1
  rw [Bool.eq_iff_iff,List.contains_iff_mem,m,Bool.and_eq_true,decide_eq_true_iff,decide_eq_true_iff]
 rw [e2]
 generalize ((List.range 24).filter q).length=n at *
 obtain⟨d,rfl⟩:∃ d,n=(p.2+1)+d:=⟨n - (p.2+1),by omega⟩
 rw [oU (x:=p.2+1) d fun i a b=>by rw [decide_eq_false (show ¬ i≤p.2 by omega),Bool.and_false]]
 obtain⟨e,he⟩:∃ e,p.2+1=p.1+e:=⟨p.2+1 - p.1,by omega⟩
 rw [he,sd (x:=p.1) e fun i a b=>by rw [decide_eq_true a,decide_eq_true (show i≤p.2 by omega)];rfl]
 have z:=oU (P:=fun i=>decide (p.1≤i) && decide (i≤p.2)) (x:=0) p.1 fun i a b=>by
  show (decide (p.1≤i) && _)=false
  rw [decide_eq_false (show ¬ p.1≤i by omega)];rfl
 rw [Nat.zero_add] at z
 rw [z]
 show (0:Rat)+(e:Rat)=_
 have:bO p=(e:Int):=by unfold bO;omega
 rw [this,Rat.intCast_natCast]
 grind
theorem vE (q:Nat->Bool):((List.range 24).filter q).Pairwise (· < ·):=List.Pairwise.filter _ List.pairwise_lt_range
theorem B4 {q:Nat->Bool} {w:Wk} {a b i:Nat} (e:bx ((List.range 24).filter q) w=some (a,b)) (h1:a≤i) (h2:i≤b):i∈gg ((List.range 24).filter q) w:=by
 obtain⟨m1,m2,_⟩:=jb e
 have srt:=List.pairwise_iff_getElem.mp (vE q)
 generalize (List.range 24).filter q=ls at *
 obtain⟨la,wa⟩:=eR.mp m1
 obtain⟨lb,wb⟩:=eR.mp m2
 have li:i < ls.length:=by omega
 rw [av 0 (List.getElem?_eq_getElem la)] at wa
 rw [av 0 (List.getElem?_eq_getElem lb)] at wb
 refine eR.mpr ⟨li,?_⟩
 rw [av 0 (List.getElem?_eq_getElem li)]
 unfold gm at wa wb ⊢
 rw [Bool.and_eq_true,decide_eq_true_iff,decide_eq_true_iff] at wa wb ⊢
 have u1:ls[a]≤ls[i]:=by
  by_cases z:a=i
  ·subst z;exact Nat.le_refl _
  ·exact Nat.le_of_lt (srt a i la li (by omega))
 have u2:ls[i]≤ls[b]:=by
  by_cases z:i=b
  ·subst z;exact Nat.le_refl _
  ·exact Nat.le_of_lt (srt i b li lb (by omega))
 omega
def gB (ls:List Nat) (P:Nat->Bool) (k:Nat) (w:Wk):Bool:=(bx ls w).isSome && (gg ls w).all fun i=>decide (i < k) && P i
theorem jY {ls:List Nat} {P:Nat->Bool} {k:Nat} {w:Wk}:gB ls P k w=true↔(bx ls w).isSome=true/\∀ i∈gg ls w,i < k/\P i=true:=by
 unfold gB
 rw [Bool.and_eq_true,List.all_eq_true]
 constructor
 ·rintro⟨a,b⟩
  refine⟨a,fun i hi=>?_⟩
  have:=b i hi
  rw [Bool.and_eq_true,decide_eq_true_iff] at this
  exact this
 ·rintro⟨a,b⟩
  refine⟨a,fun i hi=>?_⟩
  rw [Bool.and_eq_true,decide_eq_true_iff]
  exact b i hi
def GM (ws:List Wk) (ls:List Nat) (P:Nat->Bool) (k:Nat):Rat:=sQ (fun w=>bD (gB ls P k w) (gE w)) ws
theorem JC {ws:List Wk} {q:Nat->Bool} {p:Pl} (ok:∀ w∈ws,bF w) (h:A9 ws ((List.range 24).filter q) p) (P:Nat->Bool):∀ n k,k≤n->k≤((List.range 24).filter q).length->GM ws ((List.range 24).filter q) P k * (bO p:Rat)≤SM ws ((List.range 24).filter q) p * sQ (fun i=>bD (P i) 1) (List.range k):=by
 have nn:=mF ok
 have lp:=jr h.1.inn
 intro n
 induction n with
 | zero=>
  intro k hk _
  obtain rfl:k=0:=by omega
  have z:GM ws ((List.range 24).filter q) P 0=0:=by
   have le:GM ws ((List.range 24).filter q) P 0≤sQ (fun _:Wk=>bD false 0) ws:=iB fun w _=>by
    cases c:gB ((List.range 24).filter q) P 0 w with
    | false=>exact Rat.le_refl
    | true=>
     obtain⟨a,b⟩:=jY.mp c
     obtain⟨⟨x,y⟩,e⟩:=Option.isSome_iff_exists.mp a
     have:=(b x (jb e).1).1
     omega
   have z0:∀ l:List Wk,sQ (fun _:Wk=>bD false 0) l=0:=fun l=>by
    induction l with
    | nil=>rfl
    | cons x l ih=>show bD false 0+_=0;rw [ih,bJ];grind
   rw [z0] at le
   have ge:0≤GM ws ((List.range 24).filter q) P 0:=lP fun w hw=>dM _ (nn w hw)
   grind
  rw [z]
  show (0:Rat) * _≤_ * 0
  grind
 | succ n ih=>
  intro k hk hl
  by_cases k0:k≤n
  ·exact ih k k0 hl
  obtain rfl:k=n+1:=by omega
  cases c:P n with
  | false=>
   have e:GM ws ((List.range 24).filter q) P (n+1)≤GM ws ((List.range 24).filter q) P n:=iB fun w hw=>sU (nn w hw) fun g=>by
    obtain⟨a,b⟩:=jY.mp g
    refine jY.mpr ⟨a,fun i hi=>?_⟩
    obtain⟨x,y⟩:=b i hi
    refine⟨?_,y⟩
    by_cases z:i=n
    ·rw [z,c] at y;cases y
    ·omega
   have e2:=Rat.mul_le_mul_of_nonneg_right e (Rat.le_of_lt lp)
   have i1:=ih n (Nat.le_refl _) (by omega)
   rw [List.range_succ (n:=n),dI]
   show _≤_ * (_+(bD (P n) 1+0))
   rw [c,bJ]
   grind
  | true=>
   obtain⟨x,x1,x2,x3⟩:=lQ P (n+1)
   have xn:x≤n:=by
    by_cases z:x=n+1
    ·subst z
     rcases x3 with y | y
     ·omega
     ·rw [show n+1 - 1=n by omega,c] at y;cases y
    ·omega
   have e:GM ws ((List.range 24).filter q) P (n+1)≤GM ws ((List.range 24).filter q) P x+SM ws ((List.range 24).filter q) (x,n):=by
    unfold GM SM
    rw [← dJ]
    refine iB fun w hw=>?_
    have w0:=nn w hw
    have n1:=dM (gB ((List.range 24).filter q) P x w) w0
    have n2:=dM (dh ((List.range 24).filter q) (x,n) w) w0
    cases g:gB ((List.range 24).filter q) P (n+1) w with
    | false=>rw [bJ];grind
    | true=>
     obtain⟨a,b⟩:=jY.mp g
     obtain⟨⟨u,v⟩,eu⟩:=Option.isSome_iff_exists.mp a
     obtain⟨m1,m2,bd⟩:=jb eu
     by_cases z:v < x
     ·have:gB ((List.range 24).filter q) P x w=true:=jY.mpr ⟨a,fun i hi=>⟨by have:=bd i hi;omega,(b i hi).2⟩⟩
      rw [this,cm]
      grind
     ·have xu:x≤u:=by
       apply Classical.byContradiction
       intro nu
       have m:=B4 eu (i:=x - 1) (by omega) (by omega)
       have y:=(b _ m).2
       rcases x3 with y' | y'
       ·omega
       ·rw [y'] at y;cases y
      have vn:=(b v m2).1
      have:dh ((List.range 24).filter q) (x,n) w=true:=by
       rw [Ao eu,Bool.and_eq_true,decide_eq_true_iff,decide_eq_true_iff]
       exact⟨xu,by show v≤n;omega⟩
      rw [this,cm]
      grind
   have i1:=ih x xn (by omega)
   have t1:=xh ok h (r:=(x,n)) ⟨xn,by show n < _;omega⟩
   obtain⟨d,hd⟩:∃ d,n+1=x+d:=⟨n+1 - x,by omega⟩
   have r:=sd (P:=P) (x:=x) d fun i a b=>x2 i a (by omega)
   rw [← hd] at r
   rw [r]
   have ld:(bO (x,n):Rat)=(d:Rat):=by
    have:bO (x,n)=(d:Int):=by show (n:Int) - (x:Int)+1=_;omega
    rw [this,Rat.intCast_natCast]
   rw [ld] at t1
   have e2:=Rat.mul_le_mul_of_nonneg_right e (Rat.le_of_lt lp)
   generalize GM ws ((List.range 24).filter q) P (n+1)=g1 at *
   generalize GM ws ((List.range 24).filter q) P x=g0 at *
   generalize SM ws ((List.range 24).filter q) (x,n)=s1 at *
   generalize SM ws ((List.range 24).filter q) p=sp at *
   generalize (bO p:Rat)=l at *
   generalize sQ (fun t=>bD (P t) 1) (List.range x)=c0 at *
   generalize (d:Rat)=dd at *
   grind
theorem Go {ws:List Wk} {q:Nat->Bool} {p:Pl} (ok:∀ w∈ws,bF w) (h:A9 ws ((List.range 24).filter q) p) {A:Nat->Bool} (hA:∀ t,t < 24->q t=false->A t=true):(FM ws A - FM ws (fun t=>!q t)) * (bO p:Rat)≤SM ws ((List.range 24).filter q) p * jw (fun t=>q t && A t):=by
 have g:=JC ok h (fun i=>A (((List.range 24).filter q).getD i 0)) _ _ (Nat.le_refl _) (Nat.le_refl ((List.range 24).filter q).length)
 rw [AK]
 have e:FM ws A=FM ws (fun t=>!q t)+GM ws ((List.range 24).filter q) (fun i=>A (((List.range 24).filter q).getD i 0)) ((List.range 24).filter q).length:=by
  unfold FM GM
  rw [← dJ]
  refine aE fun w _=>?_
  have wi:=iS (q:=q) (w:=w)
  cases c:f6 (fun t=>!q t) w with
  | true=>
   have g0:gB ((List.range 24).filter q) (fun i=>A (((List.range 24).filter q).getD i 0)) ((List.range 24).filter q).length w=false:=by
    unfold gB
    rw [wi,c]
    rfl
   have a1:f6 A w=true:=ff (fun t ht e=>hA t ht (by simpa using e)) c
   rw [g0,a1,cm,bJ]
   grind
  | false=>
   rw [c] at wi
   have eq:f6 A w=gB ((List.range 24).filter q) (fun i=>A (((List.range 24).filter q).getD i 0)) ((List.range 24).filter q).length w:=by
    rw [Bool.eq_iff_iff,jY,ca]
    constructor
    ·intro z
     refine⟨wi,fun i hi=>?_⟩
     obtain⟨li,wl⟩:=eR.mp hi
     refine⟨li,?_⟩
     have m:=List.getElem_mem li
     rw [av 0 (List.getElem?_eq_getElem li)] at wl ⊢
     exact z _ (List.mem_range.mp (List.mem_filter.mp m).1) wl
    ·rintro⟨_,z⟩ t ht e
     cases cq:q t with
     | false=>exact hA t ht cq
     | true=>
      obtain⟨i,li,ei⟩:=List.mem_iff_getElem.mp (List.mem_filter.mpr ⟨List.mem_range.mpr ht,cq⟩)
      have gd:((List.range 24).filter q).getD i 0=t:=by rw [av 0 (List.getElem?_eq_getElem li)];exact ei
      have y:=(z i (eR.mpr ⟨li,by rw [gd];exact e⟩)).2
      rw [gd] at y
      exact y
   rw [eq,bJ]
   grind
 rw [e]
 grind
def A2 (ws:List Wk):List Ly->Nat->Option R
 | [],_=>none
 | y :: r,t=>if y.1.contains t then some (c8 ws y) else A2 ws r t
theorem lK (ws:List Wk) (y:Ly) (r:List Ly) (t:Nat):A2 ws (y :: r) t=if y.1.contains t then some (c8 ws y) else A2 ws r t:=by rw [A2]
def gJ (ws:List Wk) (lys:List Ly) (t:Nat):Rat:=match A2 ws lys t with
 | none=>0
 | some r=>val r
theorem oK (ws:List Wk) (t:Nat):gJ ws [] t=0:=rfl
theorem gI (ws:List Wk) (y:Ly) (r:List Ly) (t:Nat):gJ ws (y :: r) t=if y.1.contains t then val (c8 ws y) else gJ ws r t:=by
 unfold gJ
 rw [lK]
 cases y.1.contains t <;> rfl
theorem xR {ws:List Wk} {ls:List Nat} {lys:List Ly} (h:gY ws ls lys) {t:Nat}:(A2 ws lys t).isSome=true->t∈ls:=by
 induction h with
 | nil z=>intro e;cases e
 | @cons ls p r h tl ih=>
  intro e
  rw [lK] at e
  cases c:(gP ws ls p).1.contains t with
  | true=>exact List.mem_of_mem_drop (List.mem_of_mem_take (show t∈(ls.drop p.1).take (p.2+1 - p.1) from List.contains_iff_mem.mp c))
  | false=>
   rw [c] at e
   exact (List.mem_filter.mp (ih e)).1
theorem qB (r:R) (d:R):∀ (ts:List Nat) (ss:List R) (t:Nat),t < ss.length->(ix r ss ts).getD t d=if ts.contains t then r else ss.getD t d
 | [],ss,t,_=>rfl
 | u :: ts,ss,t,h=>by
  show (ix r (ss.set u r) ts).getD t d=_
  rw [qB r d ts (ss.set u r) t (by rw [List.length_set];exact h),List.contains_cons]
  cases c:ts.contains t with
  | true=>simp
  | false=>
   by_cases z:t=u
   ·subst z
    simp [List.getD_eq_getElem?_getD,h]
   ·have z':¬ u=t:=fun q=>z q.symm
    simp [List.getD_eq_getElem?_getD,z,z',List.getElem?_set_ne]
theorem Bn {ws:List Wk} {ls:List Nat} {lys:List Ly} (h:gY ws ls lys):∀ (ss:List R) (t:Nat) (d:R),t < ss.length->(lys.foldl (fun ss y=>ix (c8 ws y) ss y.1) ss).getD t d=(A2 ws lys t).getD (ss.getD t d):=by
 induction h with
 | nil z=>intro ss t d _;rfl
 | @cons ls p r h tl ih=>
  intro ss t d ht
  rw [List.foldl_cons,ih _ t d (by rw [lN];exact ht),qB _ _ _ _ _ ht,lK]
  cases c:(gP ws ls p).1.contains t with
  | false=>rfl
  | true=>
   have:A2 ws r t=none:=by
    cases e:A2 ws r t with
    | none=>rfl
    | some x=>
     have m:=xR tl (t:=t) (by rw [e];rfl)
     have:=(List.mem_filter.mp m).2
     rw [show (cQ ls p).contains t=true from c] at this
     cases this
   rw [this]
   rfl
theorem jg {ws:List Wk} {lys:List Ly} (h:gY ws (List.range 24) lys) {t:Nat} (ht:t < 24) (d:R):val ((aP ws lys).getD t d)=gJ ws lys t:=by
 unfold aP
 rw [Bn h _ t d (by rw [List.length_replicate];exact ht)]
 unfold gJ
 cases A2 ws lys t with
 | some r=>rfl
 | none=>
  show val ((List.replicate 24 ((0,1):R)).getD t d)=0
  rw [av d (show (List.replicate 24 ((0,1):R))[t]?=some (0,1) by rw [List.getElem?_replicate,if_pos ht])]
  exact f9
theorem C3 {ws:List Wk} (ok:∀ w∈ws,bF w) (ls:List Nat) (p:Pl):∀ r∈gW ws (gP ws ls p),iC r:=by
 intro r hr
 rw [AM] at hr
 obtain⟨w,hw,rfl⟩:=List.mem_map.mp hr
 exact (ok w (List.mem_filter.mp hw).1).am.wf.red
theorem CW {ls:List Nat} {p:Pl} (hp:ir ls.length p):(((cQ ls p).length:Nat):Rat)=(bO p:Rat):=by
 have h1:=hp.1
 have h2:=hp.2
 have e:(cQ ls p).length=p.2+1 - p.1:=by unfold cQ;rw [List.length_take,List.length_drop];omega
 have:bO p=(((cQ ls p).length:Nat):Int):=by rw [e];unfold bO;omega
 rw [this,Rat.intCast_natCast]
theorem kF {ws:List Wk} {ls:List Nat} {p:Pl} (ok:∀ w∈ws,bF w) (hp:ir ls.length p):val (c8 ws (gP ws ls p)) * (bO p:Rat)=SM ws ls p:=by
 obtain⟨rd,e⟩:=kB (C3 ok ls p)
 have lp:=jr hp
 have cl:=CW hp
 have pos:(0:Int) < (((gP ws ls p).1.length:Nat):Int):=by
  refine Rat.intCast_lt_intCast.mp ?_
  rw [Rat.intCast_natCast]
  show ((0:Int):Rat) < (((cQ ls p).length:Nat):Rat)
  rw [cl]
  exact lp
 unfold c8
 rw [vm rd.pos pos,e,Bc]
 have v1:val ((1,(((gP ws ls p).1.length:Nat):Int)):R)=1 / (bO p:Rat):=by
  unfold val
  show ((1:Int):Rat) / ((((cQ ls p).length:Nat):Int):Rat)=_
  rw [Rat.intCast_natCast,cl]
  rfl
 rw [v1]
 generalize SM ws ls p=s at *
 generalize (bO p:Rat)=l at *
 have:l≠0:=fun z=>by rw [z] at lp;exact absurd lp (by decide +kernel)
 grind
theorem Jk {ws:List Wk} (ok:∀ w∈ws,bF w) (ls:List Nat) (p:Pl):0≤SM ws ls p:=lP fun w hw=>dM _ (mF ok w hw)
theorem Eb {ws:List Wk} {ls:List Nat} {p:Pl} (ok:∀ w∈ws,bF w) (hp:ir ls.length p):0≤val (c8 ws (gP ws ls p)):=by
 have e:=kF ok hp
 have s:=Jk ok ls p
 have lp:=jr hp
 rw [← e] at s
 generalize val (c8 ws (gP ws ls p))=d at *
 generalize (bO p:Rat)=l at *
 by_cases z:0≤d
 ·exact z
 ·have z':d < 0:=Rat.not_le.mp z
  have:=Rat.mul_lt_mul_of_pos_right z' lp
  grind
theorem xQ {ws:List Wk} {ls:List Nat} {lys:List Ly} (ok:∀ w∈ws,bF w) (h:gY ws ls lys) (t:Nat):0≤gJ ws lys t:=by
 induction h with
 | nil z=>exact Rat.le_refl
 | @cons ls p r h tl ih=>
  rw [gI]
  cases c:(gP ws ls p).1.contains t with
  | true=>exact Eb ok h.1.inn
  | false=>exact ih
theorem gR {ws:List Wk} {q:Nat->Bool} {p:Pl} (ok:∀ w∈ws,bF w) (h:A9 ws ((List.range 24).filter q) p) {A:Nat->Bool} (hA:∀ t,t < 24->q t=false->A t=true):FM ws A - FM ws (fun t=>!q t)≤val (c8 ws (gP ws ((List.range 24).filter q) p)) * jw (fun t=>q t && A t):=by
 have g:=Go ok h hA
 have e:=kF ok h.1.inn
 have lp:=jr h.1.inn
 rw [← e] at g
 generalize FM ws A - FM ws (fun t=>!q t)=x at *
 generalize val (c8 ws (gP ws ((List.range 24).filter q) p))=d at *
 generalize jw (fun t=>q t && A t)=c at *
 generalize (bO p:Rat)=l at *
 by_cases z:x≤d * c
 ·exact z
 ·have z':d * c < x:=Rat.not_le.mp z
  have:=Rat.mul_lt_mul_of_pos_right z' lp
  grind
theorem F2 {a b c:Rat} (h:a≤b) (hc:0≤c):a * c≤b * c:=Rat.mul_le_mul_of_nonneg_right h hc
theorem vX {a b c:Rat} (hc:0 < c) (h:a * c≤b * c):a≤b:=by
 by_cases z:a≤b
 ·exact z
 ·have:=Rat.mul_lt_mul_of_pos_right (Rat.not_le.mp z) hc
  grind
theorem Nm {d c1 c2 l f0 fC:Rat} (g:fC - f0≤d * c2) (sp:l=c1+c2):d * c1≤f0+d * l - fC:=by
 subst sp
 rw [Rat.mul_add]
 grind
theorem Nl {d s0 c1 c2 l f0 fA fN:Rat} (g:fA - f0≤d * c2) (k0:s0 * c1≤fA - fN) (nF:fN=f0+d * l) (sp:c2=c1+l):s0 * c1≤d * c1:=by
 subst sp nF
 rw [Rat.mul_add] at g
 grind
theorem Nk {d s0 c1 c2 c3 l f1 f2 f3 f4 f5:Rat} (k1:s0 * c2≤f4 - f1) (k2:f3+(f5+d * l)≤f1+f2) (g2:f2 - f5≤d * c3) (sp2:l=c1+c3) (m:s0 * c1≤d * c1):s0 * (c2+c1)≤f4 - f3:=by
 subst sp2
 rw [Rat.mul_add] at k2 ⊢
 grind
theorem pI {q:Nat->Bool} {p:Pl} {t:Nat}:(cQ ((List.range 24).filter q) p).contains t=true->q t=true:=fun h=>by
 have:=List.mem_of_mem_drop (List.mem_of_mem_take (show t∈(((List.range 24).filter q).drop p.1).take (p.2+1 - p.1) from List.contains_iff_mem.mp h))
 exact (List.mem_filter.mp this).2
theorem Kx {ws:List Wk} (ok:∀ w∈ws,bF w) {ls:List Nat} {lys:List Ly} (h:gY ws ls lys):∀ (q:Nat->Bool),ls=(List.range 24).filter q->∀ t,t < 24->0 < gJ ws lys t->∃ A:Nat->Bool,A t=true/\q t=true/\(∀ u,u < 24->q u=false->A u=true)/\∀ C:Nat->Bool,(∀ u,u < 24->q u=false->C u=true)->(∀ u,u < 24->C u=true->A u=true)->gJ ws lys t * jw (fun u=>A u && !C u)≤FM ws A - FM ws C:=by
 have nn:=mF ok
 induction h with
 | nil z=>intro q e t ht s;exact absurd s (by rw [oK];decide +kernel)
 | @cons ls p r h tl ih=>
  intro q e t ht s
  subst e
  have hp:ir ((List.range 24).filter q).length p:=h.1.inn
  have nF:=II (ws:=ws) hp
  have nC:=zY hp
  have sv:=kF ok hp
  rw [gI] at s ⊢
  cases c:(gP ws ((List.range 24).filter q) p).1.contains t with
  | true=>
   rw [c,if_pos rfl] at s
   rw [if_pos rfl]
   have qt:=pI (q:=q) (p:=p) c
   refine⟨fun u=>!nx q p u,?_,qt,fun u _ qu=>?_,fun C hC hA=>?_⟩
   ·show (!nx q p t)=true
    unfold nx
    rw [show (cQ ((List.range 24).filter q) p).contains t=true from c];rfl
   ·show (!nx q p u)=true
    unfold nx
    rw [qu,Bool.and_false];rfl
   ·have g:=gR ok h hC
    have sp:=fQ (X:=fun t=>q t && !nx q p t) (P:=fun u=>!nx q p u && !C u) (Q:=fun t=>q t && C t) (fun u hu=>by
     have a1:=hC u hu
     have a2:C u=true->(!nx q p u)=true:=hA u hu
     show bD (q u && !nx q p u) 1=bD (!nx q p u && !C u) 1+bD (q u && C u) 1
     cases x:q u <;> cases y:nx q p u <;> cases z:C u <;> rw [x,z] at a1 <;> rw [y,z] at a2 <;> first | (exact absurd (a1 rfl) (by decide)) | (exact absurd (a2 rfl) (by decide)) | (show (1:Rat)=1+0;grind) | (show (1:Rat)=0+1;grind) | (show (0:Rat)=0+0;grind))
    rw [nC] at sp
    rw [nF,← sv]
    exact Nm g sp
  | false=>
   rw [c,if_neg (by simp)] at s
   rw [if_neg (by simp)]
   obtain⟨A,At,nt,hA,key⟩:=ih (nx q p) (ji q p) t ht s
   have nq:∀ u,nx q p u=true->q u=true:=fun u e=>by
    unfold nx at e
    rw [Bool.and_eq_true] at e
    exact e.2
   have hA':∀ u,u < 24->q u=false->A u=true:=fun u hu e=>hA u hu (by cases x:nx q p u with | false=>rfl | true=>rw [nq u x] at e;cases e)
   have g:=gR ok h hA'
   have k0:=key (fun u=>!nx q p u) (fun u _ e=>by show (!nx q p u)=true;rw [e];rfl) (fun u hu e=>hA u hu (by simpa using e))
   have pos:0 < jw (fun u=>A u && !!nx q p u):=pU ht (by show (A t && !!nx q p t)=true;rw [At,nt];rfl)
   have sp:=fQ (X:=fun t=>q t && A t) (P:=fun u=>A u && !!nx q p u) (Q:=fun t=>q t && !nx q p t) (fun u hu=>by
    have a1:=nq u
    have a2:=hA u hu
    show bD (q u && A u) 1=bD (A u && !!nx q p u) 1+bD (q u && !nx q p u) 1
    cases x:q u <;> cases y:nx q p u <;> cases z:A u <;> rw [x,y] at a1 <;> rw [y,z] at a2 <;> first | (exact absurd (a1 rfl) (by decide)) | (exact absurd (a2 rfl) (by decide)) | (show (1:Rat)=1+0;grind) | (show (1:Rat)=0+1;grind) | (show (0:Rat)=0+0;grind))
   rw [nC] at sp
   have dle:gJ ws r t≤val (c8 ws (gP ws ((List.range 24).filter q) p)):=by
    refine vX pos ?_
    rw [← sv] at nF
    exact Nl g k0 nF sp
   refine⟨A,At,nq t nt,hA',fun C hC hCA=>?_⟩
   have k1:=key (fun u=>C u || !nx q p u) (fun u _ e=>by show (C u || !nx q p u)=true;rw [e,Bool.not_false,Bool.or_true]) (fun u hu e=>by
    cases x:nx q p u with
    | false=>exact hA u hu x
    | true=>
     have e':(C u || !nx q p u)=true:=e
     rw [x,Bool.not_true,Bool.or_false] at e'
     exact hCA u hu e')
   have k2:=mO nn C (fun u=>!nx q p u)
   have g2:=gR ok h (A:=fun t=>C t && !nx q p t) (fun u hu e=>by
    show (C u && !nx q p u)=true
    rw [hC u hu e]
    unfold nx
    rw [e,Bool.and_false];rfl)
   have sp2:=fQ (X:=fun t=>q t && !nx q p t) (P:=fun u=>!nx q p u && !C u) (Q:=fun t=>q t && (C t && !nx q p t)) (fun u hu=>by
    have a1:=hC u hu
    have a2:=nq u
    show bD (q u && !nx q p u) 1=bD (!nx q p u && !C u) 1+bD (q u && (C u && !nx q p u)) 1
    cases x:q u <;> cases y:nx q p u <;> cases z:C u <;> rw [x,z] at a1 <;> rw [x,y] at a2 <;> first | (exact absurd (a1 rfl) (by decide)) | (exact absurd (a2 rfl) (by decide)) | (show (1:Rat)=1+0;grind) | (show (1:Rat)=0+1;grind) | (show (0:Rat)=0+0;grind))
   rw [nC] at sp2
   have sp3:=fQ (X:=fun u=>A u && !C u) (P:=fun u=>A u && !(C u || !nx q p u)) (Q:=fun u=>!nx q p u && !C u) (fun u hu=>by
    have a1:=hA u hu
    show bD (A u && !C u) 1=bD (A u && !(C u || !nx q p u)) 1+bD (!nx q p u && !C u) 1
    cases x:A u <;> cases y:nx q p u <;> cases z:C u <;> rw [x,y] at a1 <;> first | (exact absurd (a1 rfl) (by decide)) | (show (1:Rat)=1+0;grind) | (show (1:Rat)=0+1;grind) | (show (0:Rat)=0+0;grind))
   have m:=F2 dle (AJ fun u=>!nx q p u && !C u)
   rw [nF,← sv] at k2
   rw [sp3]
   exact Nk k1 k2 g2 sp2 m
theorem Nj {d d1 c x:Rat} (h:x≤d1 * c) (l:d1 < d) (hc:0 < c):x < d * c:=by
 have:=Rat.mul_lt_mul_of_pos_right l hc
 grind
theorem Kw {ws:List Wk} (ok:∀ w∈ws,bF w) {ls:List Nat} {lys:List Ly} (h:gY ws ls lys):∀ (q:Nat->Bool),ls=(List.range 24).filter q->∀ d:Rat,0 < d->∃ B:Nat->Bool,(∀ u,u < 24->q u=false->B u=true)/\(∀ u,u < 24->q u=true->B u=true->d≤gJ ws lys u)/\∀ A:Nat->Bool,(∀ u,u < 24->B u=true->A u=true)->0 < jw (fun u=>A u && !B u)->FM ws A - FM ws B < d * jw (fun u=>A u && !B u):=by
 induction h with
 | @nil ls z=>
  intro q e d hd
  subst e
  refine⟨fun u=>!q u,fun u _ e=>by show (!q u)=true;rw [e];rfl,fun u _ a b=>?_,fun A hA pos=>?_⟩
  ·have b':(!q u)=true:=b
   rw [a] at b'
   cases b'
  ·have e:FM ws A=FM ws (fun u=>!q u):=aE fun w hw=>by
    have n:=List.countP_eq_zero.mp z w hw
    rw [iS] at n
    have i0:f6 (fun t=>!q t) w=true:=by simpa using n
    rw [i0,ff hA i0]
   rw [e]
   have:=Rat.mul_pos hd pos
   grind
 | @cons ls p r h tl ih=>
  intro q e d hd
  subst e
  by_cases c:val (c8 ws (gP ws ((List.range 24).filter q) p)) < d
  ·refine⟨fun u=>!q u,fun u _ e=>by show (!q u)=true;rw [e];rfl,fun u _ a b=>?_,fun A hA pos=>?_⟩
   ·have b':(!q u)=true:=b
    rw [a] at b'
    cases b'
   ·have g:=gR ok h (A:=A) fun t ht e=>hA t ht (by show (!q t)=true;rw [e];rfl)
    have e:jw (fun u=>A u && !!q u)=jw (fun t=>q t && A t):=jZ fun u _=>by cases A u <;> cases q u <;> rfl
    rw [e] at pos ⊢
    exact Nj g c pos
  ·obtain⟨B,h1,h2,h3⟩:=ih (nx q p) (ji q p) d hd
   refine⟨B,fun u hu e=>h1 u hu (by unfold nx;rw [e,Bool.and_false]),fun u hu a b=>?_,h3⟩
   rw [gI]
   cases cu:(gP ws ((List.range 24).filter q) p).1.contains u with
   | true=>exact Rat.not_lt.mp c
   | false=>
    refine h2 u hu ?_ b
    unfold nx
    rw [show (cQ ((List.range 24).filter q) p).contains u=false from cu,a]
    rfl
theorem vc {ws:List Wk} (ok:∀ w∈ws,bF w):FM ws (fun _=>false)=0:=by
 have e:FM ws (fun _=>false)=sQ (fun _:Wk=>0 * (0:Rat)) ws:=aE fun w hw=>by
  have:f6 (fun _=>false) w=false:=by
   cases c:f6 (fun _=>false) w with
   | false=>rfl
   | true=>
    have o:=ok w hw
    have l1:=o.le
    have l2:=o.lt
    have:=ca.mp c w.1 (by omega) (by unfold gm;rw [decide_eq_true (Nat.le_refl _),decide_eq_true l1];rfl)
    cases this
  rw [this,bJ]
  grind
 rw [e,c9]
 grind
theorem Ed {ws:List Wk} (ok:∀ w∈ws,bF w) {ls:List Nat} {lys:List Ly} (h:gY ws ls lys):∀ (q:Nat->Bool),ls=(List.range 24).filter q->sQ (fun t=>bD (q t) (gJ ws lys t)) (List.range 24)=FM ws (fun _=>true) - FM ws (fun t=>!q t):=by
 induction h with
 | @nil ls z=>
  intro q e
  subst e
  have e:FM ws (fun _=>true)=FM ws (fun u=>!q u):=aE fun w hw=>by
   have n:=List.countP_eq_zero.mp z w hw
   rw [iS] at n
   have i0:f6 (fun t=>!q t) w=true:=by simpa using n
   rw [i0,ff (fun _ _ _=>rfl) i0]
  rw [e]
  have e2:sQ (fun t=>bD (q t) (gJ ws [] t)) (List.range 24)=sQ (fun _:Nat=>0 * (0:Rat)) (List.range 24):=aE fun t _=>by
   rw [oK]
   cases q t with
   | true=>rw [cm];grind
   | false=>rw [bJ];grind
  rw [e2,c9]
  grind
 | @cons ls p r h tl ih=>
  intro q e
  subst e
  have hp:ir ((List.range 24).filter q).length p:=h.1.inn
  have i1:=ih (nx q p) (ji q p)
  have nF:=II (ws:=ws) hp
  have nC:=zY hp
  have sv:=kF ok hp
  have e2:sQ (fun t=>bD (q t) (gJ ws (gP ws ((List.range 24).filter q) p :: r) t)) (List.range 24)=sQ (fun t=>bD (nx q p t) (gJ ws r t)+val (c8 ws (gP ws ((List.range 24).filter q) p)) * bD (q t && !nx q p t) 1) (List.range 24):=aE fun t ht=>by
   rw [gI]
   have n:nx q p t=(!(cQ ((List.range 24).filter q) p).contains t && q t):=rfl
   have lf:=pI (q:=q) (p:=p) (t:=t)
   rw [show (gP ws ((List.range 24).filter q) p).1.contains t=(cQ ((List.range 24).filter q) p).contains t from rfl]
   cases a:(cQ ((List.range 24).filter q) p).contains t with
   | true=>
    rw [a] at n lf
    rw [lf rfl,n]
    show val _=0+val _ * 1
    grind
   | false=>
    rw [a] at n
    rw [n]
    cases q t with
    | true=>show gJ ws r t=gJ ws r t+_ * 0;grind
    | false=>show (0:Rat)=0+_ * 0;grind
  rw [e2,dJ,i1,c9]
  have:sQ (fun t=>bD (q t && !nx q p t) 1) (List.range 24)=(bO p:Rat):=nC
  rw [this,sv,nF]
  grind
theorem Di (ws:List Wk):FM ws (fun _=>true)=sQ gE ws:=aE fun w _=>by
 have:f6 (fun _=>true) w=true:=ca.mpr fun _ _ _=>rfl
 rw [this];rfl
theorem cap {ws:List Wk} (ok:∀ w∈ws,bF w) {ls:List Nat} {lys:List Ly} (h:gY ws ls lys):∀ (q A:Nat->Bool),ls=(List.range 24).filter q->(∀ t,t < 24->q t=false->A t=true)->FM ws A - FM ws (fun t=>!q t)≤sQ (fun t=>bD (q t && A t) (gJ ws lys t)) (List.range 24):=by
 induction h with
 | @nil ls z=>
  intro q A e hA
  subst e
  have e:FM ws (fun _=>true)=FM ws (fun u=>!q u):=aE fun w hw=>by
   have n:=List.countP_eq_zero.mp z w hw
   rw [iS] at n
   have i0:f6 (fun t=>!q t) w=true:=by simpa using n
   rw [i0,ff (fun _ _ _=>rfl) i0]
  have m:=Dh (mF ok) (A:=A) (A':=fun _=>true) (fun _ _ _=>rfl)
  have nn:0≤sQ (fun t=>bD (q t && A t) (gJ ws [] t)) (List.range 24):=lP fun t _=>dM _ (by rw [oK];exact Rat.le_refl)
  rw [e] at m
  grind
 | @cons ls p r h tl ih=>
  intro q A e hA
  subst e
  have i1:=ih (nx q p) (fun t=>A t || !nx q p t) (ji q p) (fun t _ hn=>by
   show (A t || !nx q p t)=true
   rw [hn]
   exact Bool.or_true _)
  have g:=gR ok h (A:=fun t=>A t && !nx q p t) (fun t ht hq=>by
   show (A t && !nx q p t)=true
   rw [hA t ht hq]
   unfold nx
   rw [hq,Bool.and_false]
   rfl)
  have sup:=mO (mF ok) A (fun t=>!nx q p t)
  have e2:sQ (fun t=>bD (q t && A t) (gJ ws (gP ws ((List.range 24).filter q) p :: r) t)) (List.range 24)=sQ (fun t=>bD (nx q p t && (A t || !nx q p t)) (gJ ws r t)+val (c8 ws (gP ws ((List.range 24).filter q) p)) * bD (q t && (A t && !nx q p t)) 1) (List.range 24):=aE fun t ht=>by
   rw [gI]
   have n:nx q p t=(!(cQ ((List.range 24).filter q) p).contains t && q t):=rfl
   have lf:=pI (q:=q) (p:=p) (t:=t)
   rw [show (gP ws ((List.range 24).filter q) p).1.contains t=(cQ ((List.range 24).filter q) p).contains t from rfl]
   cases a:(cQ ((List.range 24).filter q) p).contains t with
   | true=>
    rw [a] at n lf
    rw [lf rfl,n]
    cases A t with
    | true=>show val _=0+val _ * 1;grind
    | false=>show (0:Rat)=0+val _ * 0;grind
   | false=>
    rw [a] at n
    rw [n]
    cases q t with
    | true=>
     cases A t with
     | true=>show gJ ws r t=gJ ws r t+_ * 0;grind
     | false=>show (0:Rat)=0+_ * 0;grind
    | false=>show (0:Rat)=0+_ * 0;grind
  rw [e2,dJ,c9]
  have c:sQ (fun t=>bD (q t && (A t && !nx q p t)) 1) (List.range 24)=jw (fun t=>q t && (A t && !nx q p t)):=rfl
  rw [c]
  grind
abbrev Ls:=Nat->Rat
def fH (L:Ls) (i:Nat) (x:Rat):Ls:=fun j=>if j=i then x else L j
def mn (a b:Rat):Rat:=if a≤b then a else b
def bV (W:Nat->Bool) (st:Ls×Rat) (i:Nat):Ls×Rat:=if W i=true then (fH st.1 i (st.1 i - mn (st.1 i) st.2),st.2 - mn (st.1 i) st.2) else st
def eV (W:Nat->Bool) (ord:List Nat) (L:Ls) (s:Rat):Ls×Rat:=ord.foldl (bV W) (L,s)
theorem F4 (a b:Rat):mn a b≤a:=by
 unfold mn
 split
 ·exact Rat.le_refl
 ·rename_i h;exact Rat.le_of_lt (Rat.not_le.mp h)
theorem zZ (a b:Rat):mn a b≤b:=by
 unfold mn
 split
 ·assumption
 ·exact Rat.le_refl
theorem IK {a b:Rat} (ha:0≤a) (hb:0≤b):0≤mn a b:=by
 unfold mn
 split
 ·exact ha
 ·exact hb
theorem DG (a b:Rat):mn a b=a∨mn a b=b:=by
 unfold mn
 split
 ·exact .inl rfl
 ·exact .inr rfl
structure A6 (L:Ls) (s:Rat) (st:Ls×Rat):Prop where
 nn:∀ i,0≤L i->0≤st.1 i
 le:∀ i,st.1 i≤L i
 rm:0≤st.2
theorem A6.step {W:Nat->Bool} {L:Ls} {s:Rat} {st:Ls×Rat} (hL:∀ i,0≤L i) (h:A6 L s st) (i:Nat):A6 L s (bV W st i):=by
 unfold bV
 split
 ·have a1:=F4 (st.1 i) st.2
  have a2:=zZ (st.1 i) st.2
  have a3:=IK (h.nn i (hL i)) h.rm
  refine⟨fun j _=>?_,fun j=>?_,?_⟩
  ·show 0≤fH st.1 i _ j
   unfold fH
   split
   ·grind
   ·exact h.nn j (hL j)
  ·show fH st.1 i _ j≤L j
   unfold fH
   have:=h.le j
   split
   ·rename_i e;subst e;grind
   ·exact this
  ·show 0≤st.2 - mn (st.1 i) st.2
   grind
 ·exact h
theorem A6.fold {W:Nat->Bool} {L:Ls} {s:Rat} (hL:∀ i,0≤L i):∀ {ord:List Nat} {st:Ls×Rat},A6 L s st->A6 L s (ord.foldl (bV W) st)
 | [],_,h=>h
 | i :: ord,st,h=>A6.fold hL (ord:=ord) (h.step hL i)
theorem lg {W:Nat->Bool} {st:Ls×Rat} {i j:Nat} (h:j≠i):(bV W st i).1 j=st.1 j:=by
 unfold bV
 split
 ·show fH st.1 i _ j=_
  unfold fH
  rw [if_neg h]
 ·rfl
theorem mw {W:Nat->Bool} {j:Nat}:∀ {ord:List Nat} {st:Ls×Rat},j∉ord->(ord.foldl (bV W) st).1 j=st.1 j
 | [],_,_=>rfl
 | i :: ord,st,h=>by
  rw [List.foldl_cons,mw (fun z=>h (List.mem_cons_of_mem _ z)),lg (fun z=>h (by rw [z];exact List.mem_cons_self))]
theorem xG {W:Nat->Bool} {st:Ls×Rat} {n i:Nat} (hi:i < n):sQ (bV W st i).1 (List.range n) - (bV W st i).2=sQ st.1 (List.range n) - st.2:=by
 unfold bV
 split
 ·show sQ (fH st.1 i (st.1 i - mn (st.1 i) st.2)) (List.range n) - (st.2 - mn (st.1 i) st.2)=_
  have key:∀ (m:Nat) (x:Rat),sQ (fH st.1 i x) (List.range m)=sQ st.1 (List.range m)+(if i < m then x - st.1 i else 0):=by
   intro m x
   induction m with
   | zero=>show (0:Rat)=0+(if i < 0 then _ else 0);rw [if_neg (Nat.not_lt_zero _)];grind
   | succ m ih=>
    rw [List.range_succ,dI,dI,ih]
    show sQ st.1 (List.range m)+_+(fH st.1 i x m+0)=sQ st.1 (List.range m)+(st.1 m+0)+_
    unfold fH
    by_cases c:i < m
    ·rw [if_pos c,if_neg (by omega),if_pos (by omega)];grind
    ·rw [if_neg c]
     by_cases e:m=i
     ·subst e;rw [if_pos rfl,if_pos (by omega)];grind
     ·rw [if_neg e,if_neg (by omega)];grind
  rw [key,if_pos hi]
  grind
 ·rfl
theorem qY {W:Nat->Bool} {n:Nat}:∀ {ord:List Nat} {st:Ls×Rat},(∀ i∈ord,i < n)->sQ (ord.foldl (bV W) st).1 (List.range n) - (ord.foldl (bV W) st).2=sQ st.1 (List.range n) - st.2
 | [],_,_=>rfl
 | i :: ord,st,h=>by
  rw [List.foldl_cons,qY (fun j hj=>h j (List.mem_cons_of_mem _ hj)),xG (h i List.mem_cons_self)]
theorem vA {W:Nat->Bool} {st:Ls×Rat} {i:Nat} (h0:0≤st.1 i) (hr:st.2=0):(bV W st i).1=st.1/\(bV W st i).2=0:=by
 unfold bV
 split
 ·have e:mn (st.1 i) st.2=0:=by
   rw [hr]
   rcases DG (st.1 i) 0 with z | z
   ·have:=zZ (st.1 i) 0
    rw [z] at this ⊢
    grind
   ·exact z
  rw [e]
  refine⟨?_,?_⟩
  ·show fH st.1 i (st.1 i - 0)=st.1
   funext j
   unfold fH
   split
   ·rename_i z;subst z;grind
   ·rfl
  ·show st.2 - 0=0
   grind
 ·exact⟨rfl,hr⟩
theorem nQ {W:Nat->Bool}:∀ {ord:List Nat} {st:Ls×Rat},(∀ i,0≤st.1 i)->st.2=0->(ord.foldl (bV W) st).1=st.1/\(ord.foldl (bV W) st).2=0
 | [],_,_,hr=>⟨rfl,hr⟩
 | i :: ord,st,h0,hr=>by
  obtain⟨e1,e2⟩:=vA (W:=W) (h0 i) hr
  rw [List.foldl_cons]
  have:=nQ (W:=W) (ord:=ord) (st:=bV W st i) (by rw [e1];exact h0) e2
  rw [e1] at this
  exact this
theorem vo {W:Nat->Bool} {L:Ls} {s:Rat} {i:Nat} {l1 l2:List Nat} (hL:∀ j,0≤L j) (hs:0≤s) (nd:(l1++i :: l2).Nodup) (hW:W i=true) (hl:0 < (eV W (l1++i :: l2) L s).1 i) :
  (eV W (l1++i :: l2) L s).2=0/\∀ j,j∉l1->j≠i->(eV W (l1++i :: l2) L s).1 j=L j:=by
 have e:eV W (l1++i :: l2) L s=l2.foldl (bV W) (bV W (l1.foldl (bV W) (L,s)) i):=by
  unfold eV
  rw [List.foldl_append,List.foldl_cons]
 have i0:A6 L s (L,s):=⟨fun _ h=>h,fun _=>Rat.le_refl,hs⟩
 have i1:=i0.fold (W:=W) hL (ord:=l1)
 have i2:=i1.step (W:=W) hL i
 obtain⟨n1,n2,n3⟩:=List.nodup_append.mp nd
 have il2:i∉l2:=(List.nodup_cons.mp n2).1
 rw [e] at hl ⊢
 rw [mw il2] at hl
 have offA:∀ j,j∉l1->(l1.foldl (bV W) (L,s)).1 j=L j:=fun j hj=>mw hj
 generalize l1.foldl (bV W) (L,s)=A at *
 have room:(bV W A i).2=0:=by
  unfold bV at hl ⊢
  rw [if_pos hW] at hl ⊢
  show A.2 - mn (A.1 i) A.2=0
  have hl':0 < A.1 i - mn (A.1 i) A.2:=by
   have:0 < fH A.1 i (A.1 i - mn (A.1 i) A.2) i:=hl
   unfold fH at this
   rw [if_pos rfl] at this
   exact this
  rcases DG (A.1 i) A.2 with z | z
  ·rw [z] at hl';grind
  ·rw [z];grind
 obtain⟨e1,e2⟩:=nQ (W:=W) (ord:=l2) (st:=bV W A i) (fun j=>i2.nn j (hL j)) room
 refine⟨e2,fun j hj hji=>?_⟩
 rw [e1,lg hji]
 exact offA j hj
theorem qc {W:Nat->Bool} {i:Nat} (h:W i=false):∀ {ord:List Nat} {st:Ls×Rat},(ord.foldl (bV W) st).1 i=st.1 i
 | [],_=>rfl
 | j :: ord,st=>by
  rw [List.foldl_cons,qc h (ord:=ord)]
  by_cases c:i=j
  ·subst c
   unfold bV
   rw [if_neg (by rw [h];exact Bool.false_ne_true)]
  ·exact lg c
theorem oS {α β:Type} (f:α->β->Rat) (m:List β):∀ l:List α,sQ (fun x=>sQ (fun y=>f x y) m) l=sQ (fun y=>sQ (fun x=>f x y) l) m
 | []=>by
  show (0:Rat)=sQ (fun _=>(0:Rat)) m
  have e:sQ (fun _:β=>(0:Rat)) m=sQ (fun y:β=>0 * ((fun _=>(0:Rat)) y)) m:=aE fun _ _=>by grind
  rw [e,c9]
  grind
 | x :: l=>by
  show sQ (fun y=>f x y) m+sQ (fun x=>sQ (fun y=>f x y) m) l=sQ (fun y=>f x y+sQ (fun x=>f x y) l) m
  rw [oS f m l,dJ]
theorem yQ {n i:Nat} (hi:i < n) (c:Rat):sQ (fun j=>if j=i then c else 0) (List.range n)=c:=by
 have key:∀ m:Nat,sQ (fun j=>if j=i then c else 0) (List.range m)=if i < m then c else 0:=by
  intro m
  induction m with
  | zero=>show (0:Rat)=_;rw [if_neg (Nat.not_lt_zero _)]
  | succ m ih=>
   rw [List.range_succ,dI,ih]
   show _+((if m=i then c else 0)+0)=_
   by_cases e:m=i
   ·subst e;rw [if_neg (Nat.lt_irrefl _),if_pos rfl,if_pos (Nat.lt_succ_self _)];grind
   ·by_cases l:i < m
    ·rw [if_pos l,if_neg e,if_pos (by omega)];grind
    ·rw [if_neg l,if_neg e,if_neg (by omega)];grind
 rw [key,if_pos hi]
theorem ul (g:Nat->Rat) (b:Nat):∀ N,b≤N->sQ (fun t=>bD (decide (b≤t)) (g t - g (t+1))) (List.range N)=g b - g N:=by
 intro N
 induction N with
 | zero=>intro h;rw [show b=0 by omega];show (0:Rat)=_;grind
 | succ N ih=>
  intro h
  rw [List.range_succ,dI]
  show _+(bD (decide (b≤N)) (g N - g (N+1))+0)=_
  by_cases c:b≤N
  ·rw [ih c,decide_eq_true c,cm];grind
  ·have e:b=N+1:=by omega
   have z:sQ (fun t=>bD (decide (b≤t)) (g t - g (t+1))) (List.range N)=sQ (fun _:Nat=>0 * (0:Rat)) (List.range N):=aE fun t ht=>by
    have:=List.mem_range.mp ht
    rw [decide_eq_false (by omega),bJ]
    grind
   rw [z,c9,decide_eq_false c,bJ,e]
   grind
theorem BH (g:Nat->Rat) (d:Nat):∀ k,sQ (fun t=>bD (decide (t≤d)) (g t)) (List.range (d+1+k))=sQ g (List.range (d+1)):=by
 intro k
 induction k with
 | zero=>exact aE fun t ht=>by have:=List.mem_range.mp ht;rw [decide_eq_true (by omega),cm]
 | succ k ih=>
  rw [show d+1+(k+1)=(d+1+k)+1 by omega,List.range_succ,dI,ih]
  show _+(bD (decide (d+1+k≤d)) _+0)=_
  rw [decide_eq_false (by omega),bJ]
  grind
def Wt (f l:Nat->Nat) (t i:Nat):Bool:=decide (f i≤t) && decide (t≤l i)
def cr (ord:List Nat) (f l:Nat->Nat) (a:Ls) (s:Nat->Rat):Nat->Ls
 | 0=>a
 | t+1=>(eV (Wt f l t) ord (cr ord f l a s t) (s t)).1
structure dG (n:Nat) (ord:List Nat) (f l:Nat->Nat) (a:Ls) (s:Nat->Rat):Prop where
 nd:ord.Nodup
 mem:∀ i,i∈ord↔i < n
 srt:ord.Pairwise (fun i j=>l i≤l j)
 win:∀ i,i < n->f i≤l i/\l i < 24
 an:∀ i,0≤a i
 sn:∀ t,0≤s t
 cap:∀ b d,b≤d->d < 24->sQ (fun j=>bD (decide (b≤f j) && decide (l j≤d)) (a j)) (List.range n)≤sQ (fun t=>bD (decide (t≤d)) (bD (decide (b≤t)) (s t))) (List.range 24)
section
variable {n:Nat} {ord:List Nat} {f l:Nat->Nat} {a:Ls} {s:Nat->Rat}
theorem dG.sti (h:dG n ord f l a s) {L:Ls} (hL:∀ i,0≤L i) (t:Nat):A6 L (s t) (eV (Wt f l t) ord L (s t)):=A6.fold hL ⟨fun _ h=>h,fun _=>Rat.le_refl,h.sn t⟩
theorem dG.nn (h:dG n ord f l a s):∀ t i,0≤cr ord f l a s t i
 | 0,i=>h.an i
 | t+1,i=>(h.sti (h.nn t) t).nn i (h.nn t i)
theorem dG.dn (h:dG n ord f l a s) (t i:Nat):cr ord f l a s (t+1) i≤cr ord f l a s t i:=(h.sti (h.nn t) t).le i
theorem dG.dn' (h:dG n ord f l a s) (t i:Nat):∀ k,cr ord f l a s (t+k) i≤cr ord f l a s t i
 | 0=>Rat.le_refl
 | k+1=>Rat.le_trans (h.dn (t+k) i) (h.dn' t i k)
theorem dG.out (h:dG n ord f l a s) {t i:Nat} (hw:Wt f l t i=false):cr ord f l a s (t+1) i=cr ord f l a s t i:=qc hw
theorem dG.sum (h:dG n ord f l a s) (t:Nat):sQ (fun j=>cr ord f l a s t j - cr ord f l a s (t+1) j) (List.range n)=s t - (eV (Wt f l t) ord (cr ord f l a s t) (s t)).2:=by
 have q:=qY (W:=Wt f l t) (n:=n) (ord:=ord) (st:=(cr ord f l a s t,s t)) fun i hi=>(h.mem i).mp hi
 have e:sQ (fun j=>cr ord f l a s t j - cr ord f l a s (t+1) j) (List.range n)=sQ (cr ord f l a s t) (List.range n) - sQ (cr ord f l a s (t+1)) (List.range n):=by
  have e1:=dJ (f:=fun j=>cr ord f l a s t j - cr ord f l a s (t+1) j) (g:=cr ord f l a s (t+1)) (List.range n)
  have e2:sQ (fun x=>cr ord f l a s t x - cr ord f l a s (t+1) x+cr ord f l a s (t+1) x) (List.range n)=sQ (cr ord f l a s t) (List.range n):=aE fun x _=>by grind
  grind
 rw [e]
 have q':sQ (cr ord f l a s (t+1)) (List.range n) - (eV (Wt f l t) ord (cr ord f l a s t) (s t)).2=sQ (cr ord f l a s t) (List.range n) - s t:=q
 grind
theorem dG.all_le (h:dG n ord f l a s) (t:Nat):sQ (fun j=>cr ord f l a s t j - cr ord f l a s (t+1) j) (List.range n)≤s t:=by
 rw [h.sum]
 have:=(h.sti (h.nn t) t).rm
 grind
theorem dG.full (h:dG n ord f l a s) {t i:Nat} (hi:i < n) (hw:Wt f l t i=true) (hl:0 < cr ord f l a s (t+1) i):sQ (fun j=>bD (decide (l j≤l i)) (cr ord f l a s t j - cr ord f l a s (t+1) j)) (List.range n)=s t:=by
 obtain⟨l1,l2,e⟩:=List.append_of_mem ((h.mem i).mpr hi)
 have nd:=h.nd
 have srt:=h.srt
 rw [e] at nd srt
 have hl':0 < (eV (Wt f l t) (l1++i :: l2) (cr ord f l a s t) (s t)).1 i:=by rw [← e];exact hl
 obtain⟨r0,keep⟩:=vo (h.nn t) (h.sn t) nd hw hl'
 rw [← e] at r0 keep
 have sm:=h.sum t
 rw [r0] at sm
 have e2:sQ (fun j=>bD (decide (l j≤l i)) (cr ord f l a s t j - cr ord f l a s (t+1) j)) (List.range n)=sQ (fun j=>cr ord f l a s t j - cr ord f l a s (t+1) j) (List.range n):=aE fun j _=>by
  by_cases c:l j≤l i
  ·rw [decide_eq_true c,cm]
  ·rw [decide_eq_false c,bJ]
   have j1:j∉l1:=fun z=>c ((List.pairwise_append.mp srt).2.2 j z i List.mem_cons_self)
   have j2:j≠i:=fun z=>c (by rw [z];exact Nat.le_refl _)
   have k:cr ord f l a s (t+1) j=cr ord f l a s t j:=keep j j1 j2
   rw [k]
   grind
 rw [e2,sm]
 grind
theorem KM (h:dG n ord f l a s) {i:Nat} (hi:i < n):cr ord f l a s 24 i=0:=by
 by_cases z:cr ord f l a s 24 i=0
 ·exact z
 exfalso
 have pos:0 < cr ord f l a s 24 i:=by
  have:=h.nn 24 i
  grind
 obtain⟨w1,w2⟩:=h.win i hi
 have later:∀ t,t≤24->0 < cr ord f l a s t i:=fun t ht=>by
  have:=h.dn' t i (24 - t)
  rw [show t+(24 - t)=24 by omega] at this
  grind
 let P:Nat->Bool:=fun t=>decide (sQ (fun j=>bD (decide (l j≤l i)) (cr ord f l a s t j - cr ord f l a s (t+1) j)) (List.range n)=s t)
 have Pin:∀ t,f i≤t->t≤l i->P t=true:=fun t h1 h2=>decide_eq_true (h.full hi (by unfold Wt;rw [decide_eq_true h1,decide_eq_true h2];rfl) (later (t+1) (by omega)))
 obtain⟨b,hb,hrun,hend⟩:=lQ P (l i+1)
 have bf:b≤f i:=by
  by_cases c:b≤f i
  ·exact c
  ·rcases hend with e | e
   ·omega
   ·rw [Pin (b - 1) (by omega) (by omega)] at e;cases e
 have early:∀ j,j < n->l j≤l i->f j < b->cr ord f l a s b j - cr ord f l a s (l i+1) j=0:=fun j hj h1 h2=>by
  have e:P (b - 1)=false:=by
   rcases hend with e | e
   ·omega
   ·exact e
  by_cases c:b - 1≤l j
  ·have z0:cr ord f l a s b j=0:=by
    by_cases zz:cr ord f l a s b j=0
    ·exact zz
    exfalso
    have nb:=h.nn b j
    have fl:=h.full (t:=b - 1) hj (by unfold Wt;rw [decide_eq_true (show f j≤b - 1 by omega),decide_eq_true c];rfl) (by rw [show b - 1+1=b by omega];grind)
    have m:sQ (fun k=>bD (decide (l k≤l j)) (cr ord f l a s (b - 1) k - cr ord f l a s (b - 1+1) k)) (List.range n)≤sQ (fun k=>bD (decide (l k≤l i)) (cr ord f l a s (b - 1) k - cr ord f l a s (b - 1+1) k)) (List.range n):=iB fun k _=>sU (by have:=h.dn (b - 1) k;grind) fun q=>decide_eq_true (by have:=of_decide_eq_true q;omega)
    have m2:sQ (fun k=>bD (decide (l k≤l i)) (cr ord f l a s (b - 1) k - cr ord f l a s (b - 1+1) k)) (List.range n)≤sQ (fun k=>cr ord f l a s (b - 1) k - cr ord f l a s (b - 1+1) k) (List.range n):=iB fun k _=>by
     have:=h.dn (b - 1) k
     cases decide (l k≤l i) with
     | true=>exact Rat.le_refl
     | false=>rw [bJ];grind
    have m3:=h.all_le (b - 1)
    have:P (b - 1)=true:=decide_eq_true (by grind)
    rw [this] at e
    cases e
   have d1:=h.dn' b j (l i+1 - b)
   rw [show b+(l i+1 - b)=l i+1 by omega] at d1
   have d2:=h.nn (l i+1) j
   grind
  ·have st:∀ k,cr ord f l a s (b+k) j=cr ord f l a s b j:=fun k=>by
    induction k with
    | zero=>rfl
    | succ k ih=>
     rw [← ih]
     exact h.out (t:=b+k) (by unfold Wt;rw [decide_eq_false (show ¬ b+k≤l j by omega),Bool.and_false])
   have:=st (l i+1 - b)
   rw [show b+(l i+1 - b)=l i+1 by omega] at this
   rw [this]
   grind
 have tot:sQ (fun t=>bD (decide (b≤t)) (s t)) (List.range (l i+1))=sQ (fun j=>bD (decide (l j≤l i)) (cr ord f l a s b j - cr ord f l a s (l i+1) j)) (List.range n):=by
  have e1:sQ (fun t=>bD (decide (b≤t)) (s t)) (List.range (l i+1))=sQ (fun t=>sQ (fun j=>bD (decide (l j≤l i)) (bD (decide (b≤t)) (cr ord f l a s t j - cr ord f l a s (t+1) j))) (List.range n)) (List.range (l i+1)):=aE fun t ht=>by
   have tl:=List.mem_range.mp ht
   by_cases c:b≤t
   ·rw [decide_eq_true c,cm,← of_decide_eq_true (hrun t c tl)]
    exact aE fun j _=>by rw [cm]
   ·rw [decide_eq_false c,bJ]
    have e:sQ (fun j=>bD (decide (l j≤l i)) (bD false (cr ord f l a s t j - cr ord f l a s (t+1) j))) (List.range n)=sQ (fun _:Nat=>0 * (0:Rat)) (List.range n):=aE fun j _=>by
     rw [bJ]
     cases decide (l j≤l i) with
     | true=>rw [cm];grind
     | false=>rw [bJ];grind
    rw [e,c9]
    grind
  rw [e1,oS]
  exact aE fun j _=>by
   cases decide (l j≤l i) with
   | true=>
    have:=ul (fun t=>cr ord f l a s t j) b (l i+1) hb
    rw [cm,← this]
    exact aE fun t _=>by rw [cm]
   | false=>
    rw [bJ]
    have e:sQ (fun t=>bD false (bD (decide (b≤t)) (cr ord f l a s t j - cr ord f l a s (t+1) j))) (List.range (l i+1))=sQ (fun _:Nat=>0 * (0:Rat)) (List.range (l i+1)):=aE fun t _=>by rw [bJ];grind
    rw [e,c9]
    grind
 have le:sQ (fun j=>bD (decide (l j≤l i)) (cr ord f l a s b j - cr ord f l a s (l i+1) j)+(if j=i then cr ord f l a s (l i+1) i else 0)) (List.range n)≤sQ (fun j=>bD (decide (b≤f j) && decide (l j≤l i)) (a j)) (List.range n):=iB fun j hj=>by
  have jn:=List.mem_range.mp hj
  by_cases c1:l j≤l i
  ·rw [decide_eq_true c1,cm,Bool.and_true]
   by_cases c2:b≤f j
   ·rw [decide_eq_true c2,cm]
    have d1:=h.dn' 0 j b
    rw [Nat.zero_add] at d1
    have d1':cr ord f l a s b j≤a j:=d1
    have d2:=h.nn (l i+1) j
    by_cases e:j=i
    ·subst e;rw [if_pos rfl];grind
    ·rw [if_neg e];grind
   ·rw [decide_eq_false c2,bJ,early j jn c1 (by omega),if_neg (fun e=>c2 (by rw [e];exact bf))]
    grind
  ·rw [decide_eq_false c1,bJ,Bool.and_false,bJ,if_neg (fun e=>c1 (by rw [e];exact Nat.le_refl _))]
   grind
 rw [dJ,yQ hi,← tot] at le
 have cp:=h.cap b (l i) (by omega) w2
 have up:=BH (fun t=>bD (decide (b≤t)) (s t)) (l i) (24 - (l i+1))
 rw [show l i+1+(24 - (l i+1))=24 by omega] at up
 rw [up] at cp
 have:=later (l i+1) (by omega)
 grind
end
def dF (l:List R):Ls:=fun j=>val (l.getD j (0,1))
theorem m9:val ((0,1):R)=0:=(dX (r:=(0,1)) (by decide)).mpr rfl
theorem F3 {a b:R} (ha:eM a) (hb:eM b):mn (val a) (val b)=val (d6 a b):=by
 unfold d6 mn
 cases c:cS b a with
 | true=>
  rw [if_pos rfl,if_neg]
  have:=(kW hb.bq.pos ha.bq.pos).mp c
  exact Rat.not_le.mpr this
 | false=>
  rw [if_neg Bool.false_ne_true,if_pos]
  exact (ia hb.bq.pos ha.bq.pos).mp c
theorem Bd {l:List R} {i:Nat} (hi:i < l.length) (x:R):dF (l.set i x)=fH (dF l) i (val x):=by
 funext j
 unfold dF fH
 rw [List.getD_eq_getElem?_getD,List.getElem?_set]
 by_cases c:j=i
 ·subst c
  rw [if_pos rfl,if_pos rfl,if_pos hi]
  rfl
 ·rw [if_neg (fun z=>c z.symm),if_neg c,← List.getD_eq_getElem?_getD]
theorem xF {ws:List Wk} {n t i:Nat} {st:tQ} (h:wO n st) (hi:i < n):(dF (bS ws t st i).1,val (bS ws t st i).2.1)=bV (fun j=>gm (ws.getD j bC) t) (dF st.1,val st.2.1) i:=by
 have al:=fo (n:=n) h.lf i
 have e:=F3 al h.rm
 have eL:dF st.1 i=val (st.1.getD i (0,1)):=rfl
 unfold bS bV
 dsimp only
 by_cases c:gm (ws.getD i bC) t=true
 ·rw [if_pos c]
  show _=(fH (dF st.1) i (dF st.1 i - mn (dF st.1 i) (val st.2.1)),val st.2.1 - mn (dF st.1 i) (val st.2.1))
  rw [eL,e]
  by_cases z:d6 (st.1.getD i (0,1)) st.2.1=(0,1)
  ·rw [if_neg (fun q=>q.2 z),z,m9]
   have e1:fH (dF st.1) i (val (st.1.getD i (0,1)) - 0)=dF st.1:=by
    funext j
    unfold fH
    split
    ·rename_i q;subst q;show _ - 0=val _;grind
    ·rfl
   rw [e1]
   have e2:val st.2.1 - 0=val st.2.1:=by grind
   rw [e2]
  ·rw [if_pos ⟨c,z⟩]
   have la:=pH al h.rm
   show (dF (st.1.set i _),val (bu st.2.1 _))=_
   rw [Bd (by rw [h.len];exact hi),df al.bq.pos la.bq.pos,df h.rm.bq.pos la.bq.pos]
 ·rw [if_neg (fun z=>c z.1),if_neg c]
theorem mr {ws:List Wk} {n t:Nat}:∀ {ord:List Nat} {st:tQ},wO n st->(∀ i∈ord,i < n)->(dF (ord.foldl (bS ws t) st).1,val (ord.foldl (bS ws t) st).2.1)=ord.foldl (bV (fun j=>gm (ws.getD j bC) t)) (dF st.1,val st.2.1)
 | [],_,_,_=>rfl
 | i :: ord,st,h,hl=>by
  rw [List.foldl_cons,List.foldl_cons,← xF h (hl i List.mem_cons_self)]
  exact mr (h.step (ws:=ws) (t:=t) (hl i List.mem_cons_self)).1 fun j hj=>hl j (List.mem_cons_of_mem _ hj)
abbrev fW (ws:List Wk) (i:Nat):Nat:=(ws.getD i bC).1
abbrev aW (ws:List Wk):Ls:=dF (ws.map fun w=>w.2.2)
theorem jk {ws:List Wk} {ord:List Nat} {ss:List R} (okw:∀ w∈ws,bF w) (ho:∀ i∈ord,i < ws.length) (hs:∀ r∈ss,eM r):∀ t,dF (bb ws ord ss t).1=cr ord (fW ws) (be ws) (aW ws) (dF ss) t
 | 0=>rfl
 | t+1=>by
  obtain⟨h,hl⟩:=fk okw ho hs t
  have d:wO ws.length ((bb ws ord ss t).1,ss.getD t (0,1),[]):=⟨h.len,h.lf,fo (n:=0) hs t,fun p hp=>by cases hp⟩
  have q:=mr (ws:=ws) (t:=t) d ho
  have e:=congrArg Prod.fst q
  show dF (ord.foldl (bS ws t) ((bb ws ord ss t).1,ss.getD t (0,1),[])).1=(eV (Wt (fW ws) (be ws) t) ord (cr ord (fW ws) (be ws) (aW ws) (dF ss) t) (dF ss t)).1
  rw [← jk okw ho hs t]
  exact e
theorem ph {ws:List Wk}:∀ k,k≤ws.length->(aS ws k).Nodup
 | 0,_=>List.nodup_nil
 | k+1,h=>by
  have oi:=dU (ws:=ws) k (by omega)
  show (aS ws k++[_]).Nodup
  rw [List.nodup_append]
  refine⟨ph k (by omega),List.nodup_cons.mpr ⟨by simp,List.nodup_nil⟩,fun a ha b hb z=>?_⟩
  have m:=lZ (ws:=ws) (oi.ne (by omega))
  rw [List.mem_singleton.mp hb] at z
  subst z
  exact (fe.mp m).2 ha
theorem Ch {ws:List Wk} (i:Nat):i∈aS ws ws.length↔i < ws.length:=by
 have oi:=dU (ws:=ws) ws.length (Nat.le_refl _)
 refine⟨oi.lt i,fun h=>?_⟩
 by_cases c:i∈aS ws ws.length
 ·exact c
 ·have:i∈cC ws.length (aS ws ws.length):=fe.mpr ⟨h,c⟩
  have l:=oi.wl
  have e:(cC ws.length (aS ws ws.length)).length=0:=by omega
  rw [List.length_eq_zero_iff.mp e] at this
  cases this
theorem uy {ws:List Wk}:∀ k,k≤ws.length->(aS ws k).Pairwise (fun i j=>be ws i≤be ws j)/\∀ i∈aS ws k,∀ j,j < ws.length->j∉aS ws k->be ws i≤be ws j
 | 0,_=>⟨.nil,fun i hi=>absurd (show i∈([]:List Nat) from hi) (by simp)⟩
 | k+1,h=>by
  obtain⟨p,q⟩:=uy (ws:=ws) k (by omega)
  have oi:=dU (ws:=ws) k (by omega)
  have ne:=oi.ne (by omega)
  have m:=lZ (ws:=ws) ne
  have ml:∀ j,j < ws.length->j∉aS ws k->be ws (j8 ws (cC ws.length (aS ws k)))≤be ws j:=fun j h1 h2=>by
   have a:=List.mem_of_getElem? (pE (ws:=ws) ne)
   exact (jp.mp a).2 j (fe.mpr ⟨h1,h2⟩)
  refine⟨?_,fun i hi j hj nj=>?_⟩
  ·show (aS ws k++[_]).Pairwise _
   rw [List.pairwise_append]
   exact⟨p,List.pairwise_singleton _ _,fun a ha b hb=>by rw [List.mem_singleton.mp hb];exact q a ha _ (fe.mp m).1 (fe.mp m).2⟩
  ·have nj':j∉aS ws k:=fun z=>nj (List.mem_append_left _ z)
   rcases List.mem_append.mp (show i∈aS ws k++[_] from hi) with z | z
   ·exact q i z j hj nj'
   ·rw [List.mem_singleton.mp z];exact ml j hj nj'
theorem Gk {w:Wk} (h:bF w) (b d:Nat) (hd:d < 24):f6 (fun t=>decide (b≤t) && decide (t≤d)) w=(decide (b≤w.1) && decide (w.2.1≤d)):=by
 have h1:=h.le
 have h2:=h.lt
 rw [Bool.eq_iff_iff,ca,Bool.and_eq_true,decide_eq_true_iff,decide_eq_true_iff]
 constructor
 ·intro q
  have a:=q w.1 (by omega) (by unfold gm;rw [decide_eq_true (Nat.le_refl _),decide_eq_true h1];rfl)
  have c:=q w.2.1 h2 (by unfold gm;rw [decide_eq_true h1,decide_eq_true (Nat.le_refl _)];rfl)
  rw [Bool.and_eq_true,decide_eq_true_iff,decide_eq_true_iff] at a c
  exact⟨a.1,c.2⟩
 ·rintro⟨q1,q2⟩ t ht it
  unfold gm at it
  rw [Bool.and_eq_true,decide_eq_true_iff,decide_eq_true_iff] at it
  rw [Bool.and_eq_true,decide_eq_true_iff,decide_eq_true_iff]
  omega
theorem uW {ws:List Wk} {i:Nat} (h:i < ws.length):aW ws i=gE (ws.getD i bC):=by
 unfold aW dF gE
 rw [av (0,1) (show (ws.map fun w=>w.2.2)[i]?=some ws[i].2.2 by rw [List.getElem?_map,List.getElem?_eq_getElem h];rfl),av bC (List.getElem?_eq_getElem h)]
theorem sX {ws:List Wk} {lys:List Ly} (ok:∀ w∈ws,bF w) (h:gY ws (List.range 24) lys):dG ws.length (aS ws ws.length) (fW ws) (be ws) (aW ws) (dF (aP ws lys)) where
 nd:=ph _ (Nat.le_refl _)
 mem:=Ch
 srt:=(uy _ (Nat.le_refl _)).1
 win:=fun i hi=>by
  have o:=ok _ (List.getElem_mem hi)
  unfold fW be
  rw [av bC (List.getElem?_eq_getElem hi)]
  exact⟨o.le,o.lt⟩
 an:=fun i=>by
  by_cases c:i < ws.length
  ·rw [uW c]
   refine mF ok _ ?_
   rw [av bC (List.getElem?_eq_getElem c)]
   exact List.getElem_mem c
  ·unfold aW dF
   rw [List.getD_eq_getElem?_getD,List.getElem?_eq_none (by rw [List.length_map];omega)]
   show 0≤val ((0,1):R)
   rw [m9]
   exact Rat.le_refl
 sn:=fun t=>by
  by_cases c:t < 24
  ·show 0≤val ((aP ws lys).getD t (0,1))
   rw [jg h c]
   exact xQ ok h t
  ·have e24:(aP ws lys).length=24:=by
    unfold aP
    rw [ib]
    rfl
   unfold dF
   rw [List.getD_eq_getElem?_getD,List.getElem?_eq_none (by omega)]
   show 0≤val ((0,1):R)
   rw [m9]
   exact Rat.le_refl
 cap:=fun b d hb hd=>by
  have c:=cap ok h (fun _=>true) (fun t=>decide (b≤t) && decide (t≤d)) (List.filter_eq_self.mpr fun _ _=>rfl).symm (fun t _ z=>by cases z)
  have e0:FM ws (fun t=>!(fun _=>true) t)=0:=vc ok
  rw [e0] at c
  have e1:FM ws (fun t=>decide (b≤t) && decide (t≤d))=sQ (fun j=>bD (decide (b≤fW ws j) && decide (be ws j≤d)) (aW ws j)) (List.range ws.length):=by
   unfold FM
   rw [gc bC]
   exact aE fun j hj=>by
    have jl:=List.mem_range.mp hj
    rw [Gk (by rw [av bC (List.getElem?_eq_getElem jl)];exact ok _ (List.getElem_mem jl)) b d hd,uW jl]
    rfl
  have e2:sQ (fun t=>bD (true && (decide (b≤t) && decide (t≤d))) (gJ ws lys t)) (List.range 24)=sQ (fun t=>bD (decide (t≤d)) (bD (decide (b≤t)) (dF (aP ws lys) t))) (List.range 24):=aE fun t ht=>by
   have tl:=List.mem_range.mp ht
   have ev:dF (aP ws lys) t=gJ ws lys t:=jg h tl _
   rw [ev]
   cases decide (b≤t) <;> cases decide (t≤d) <;> rfl
  rw [← e1,← e2]
  grind
theorem vV {ws:List Wk} {lys:List Ly} (ok:∀ w∈ws,bF w) (h:gY ws (List.range 24) lys) (hs:∀ r∈aP ws lys,eM r):nK (c5 ws (aP ws lys)).1=none:=by
 have oi:=dU (ws:=ws) ws.length (Nat.le_refl _)
 obtain⟨po,_⟩:=fk (ord:=aS ws ws.length) (ss:=aP ws lys) ok oi.lt hs 24
 refine vZ fun j hj=>?_
 have jn:j < ws.length:=by rw [← po.len];exact hj
 have e:=KM (sX (ws:=ws) ok h) jn
 rw [← jk ok oi.lt hs 24] at e
 have a:=fo (n:=0) po.lf j
 have e':val ((c5 ws (aP ws lys)).1.getD j (0,1))=0:=e
 have z:=(dX a.bq.pos).mp e'
 have r:=a.red
 refine eN r ⟨by decide,by decide⟩ ?_
 rw [m9]
 exact e'
structure Dc (ws:List Wk) (n t:Nat) (L0:List R) (s:R) (seen:List Nat) (st:tQ):Prop where
 ok:wO n st
 sub:(st.2.2.map (·.1)).Sublist seen
 pc:∀ i r,(i,r)∈st.2.2->gm (ws.getD i bC) t=true/\eM r/\0 < val r/\val r=dF L0 i - dF st.1 i
 un:∀ i,i∉st.2.2.map (·.1)->st.1.getD i (0,1)=L0.getD i (0,1)
 sum:sQ (fun p:Pc=>val p.2) st.2.2+val st.2.1=val s
theorem C6 {r:R} (h:eM r) (hz:r≠(0,1)):0 < val r:=by
 have n:=(kQ h.bq.pos).mpr h.nn
 by_cases z:val r=0
 ·exfalso
  refine hz (eN h.red ⟨by decide,by decide⟩ ?_)
  rw [m9]
  exact z
 ·grind
theorem Dc.step {ws:List Wk} {n t i:Nat} {L0:List R} {s:R} {seen:List Nat} {st:tQ} (h:Dc ws n t L0 s seen st) (hi:i < n) (ni:i∉seen):Dc ws n t L0 s (seen++[i]) (bS ws t st i):=by
 have d1:=(h.ok.step (ws:=ws) (t:=t) hi).1
 have nf:i∉st.2.2.map (·.1):=fun z=>ni (h.sub.subset z)
 have al:=fo (n:=n) h.ok.lf i
 have la:=pH al h.ok.rm
 by_cases c:gm (ws.getD i bC) t=true/\d6 (st.1.getD i (0,1)) st.2.1≠(0,1)
 ·have e:bS ws t st i=(st.1.set i (bu (st.1.getD i (0,1)) (d6 (st.1.getD i (0,1)) st.2.1)),bu st.2.1 (d6 (st.1.getD i (0,1)) st.2.1),st.2.2++[(i,d6 (st.1.getD i (0,1)) st.2.1)]):=by
   unfold bS
   rw [if_pos c]
  have u0:=h.un i nf
  rw [e] at d1 ⊢
  have il:i < st.1.length:=by rw [h.ok.len];exact hi
  have off:∀ j x,j≠i->(st.1.set i x).getD j (0,1)=st.1.getD j (0,1):=fun j x hj=>by
   rw [List.getD_eq_getElem?_getD,List.getElem?_set_ne (fun z=>hj z.symm),← List.getD_eq_getElem?_getD]
  have on:∀ x,(st.1.set i x).getD i (0,1)=x:=fun x=>by
   rw [List.getD_eq_getElem?_getD,List.getElem?_set_self il]
   rfl
  refine⟨d1,?_,fun j r hj=>?_,fun j hj=>?_,?_⟩
  ·show ((st.2.2++[(i,d6 (st.1.getD i (0,1)) st.2.1)]).map (fun p:Pc=>p.1)).Sublist _
   rw [List.map_append]
   exact List.Sublist.append h.sub (List.Sublist.refl _)
  ·rcases List.mem_append.mp hj with z | z
   ·obtain⟨a1,a2,a3,a4⟩:=h.pc j r z
    have jn:j≠i:=fun q=>nf (by rw [← q];exact List.mem_map.mpr ⟨_,z,rfl⟩)
    refine⟨a1,a2,a3,?_⟩
    show val r=dF L0 j - val ((st.1.set i _).getD j (0,1))
    rw [off j _ jn]
    exact a4
   ·cases List.mem_singleton.mp z
    refine⟨c.1,la,C6 la c.2,?_⟩
    show val (d6 (st.1.getD i (0,1)) st.2.1)=val (L0.getD i (0,1)) - val ((st.1.set i _).getD i (0,1))
    rw [on,df al.bq.pos la.bq.pos,u0]
    grind
  ·have hj':j∉(st.2.2++[(i,d6 (st.1.getD i (0,1)) st.2.1)]).map (·.1):=hj
   rw [List.map_append] at hj'
   have jn:j≠i:=fun q=>hj' (List.mem_append_right _ (by rw [q];exact List.mem_cons_self))
   show (st.1.set i _).getD j (0,1)=_
   rw [off j _ jn]
   exact h.un j fun z=>hj' (List.mem_append_left _ z)
  ·show sQ (fun p:Pc=>val p.2) (st.2.2++[_])+val (bu st.2.1 _)=val s
   rw [dI,df h.ok.rm.bq.pos la.bq.pos]
   have:=h.sum
   show _+(val (d6 (st.1.getD i (0,1)) st.2.1)+0)+_=_
   grind
 ·have e:bS ws t st i=st:=by
   unfold bS
   rw [if_neg c]
  rw [e]
  exact⟨h.ok,h.sub.trans (List.sublist_append_left _ _),h.pc,h.un,h.sum⟩
theorem Dc.fold {ws:List Wk} {n t:Nat} {L0:List R} {s:R}:∀ {ord seen:List Nat} {st:tQ},Dc ws n t L0 s seen st->(∀ i∈ord,i < n)->(seen++ord).Nodup->Dc ws n t L0 s (seen++ord) (ord.foldl (bS ws t) st)
 | [],seen,st,h,_,_=>by rw [List.append_nil];exact h
 | i :: ord,seen,st,h,hl,nd=>by
  have e:seen++i :: ord=(seen++[i])++ord:=by simp
  rw [e] at nd ⊢
  have ni:i∉seen:=fun z=>(List.nodup_append.mp (List.nodup_append.mp nd).1).2.2 i z i List.mem_cons_self rfl
  exact Dc.fold (h.step (hl i List.mem_cons_self) ni) (fun j hj=>hl j (List.mem_cons_of_mem _ hj)) nd
theorem zm {ws:List Wk} {ord:List Nat} {ss:List R} (okw:∀ w∈ws,bF w) (ho:∀ i∈ord,i < ws.length) (nd:ord.Nodup) (hs:∀ r∈ss,eM r) (t:Nat):Dc ws ws.length t (bb ws ord ss t).1 (ss.getD t (0,1)) ord (eU ws ord t (bb ws ord ss t).1 (ss.getD t (0,1))):=by
 obtain⟨h,hl⟩:=fk okw ho hs t
 have d:wO ws.length ((bb ws ord ss t).1,ss.getD t (0,1),[]):=⟨h.len,h.lf,fo (n:=0) hs t,fun p hp=>by cases hp⟩
 have q:Dc ws ws.length t (bb ws ord ss t).1 (ss.getD t (0,1)) [] ((bb ws ord ss t).1,ss.getD t (0,1),[]):=⟨d,List.Sublist.refl _,(fun i r hr=>by cases hr),(fun i _=>rfl),by show (0:Rat)+_=_;grind⟩
 exact q.fold ho nd
theorem gM {α:Type} {f:α->Rat}:∀ {l:List α},(∀ x∈l,0≤f x)->sQ f l=0->∀ x∈l,f x=0
 | [],_,_,x,hx=>by cases hx
 | y :: l,h,e,x,hx=>by
  have h1:=h y List.mem_cons_self
  have h2:=lP (f:=f) (l:=l) fun z hz=>h z (List.mem_cons_of_mem _ hz)
  have e':f y+sQ f l=0:=e
  rcases List.mem_cons.mp hx with z | z
  ·rw [z];grind
  ·exact gM (fun z hz=>h z (List.mem_cons_of_mem _ hz)) (by grind) x z
theorem EM {α:Type} {f g:α->Rat} (l:List α):sQ (fun x=>f x - g x) l=sQ f l - sQ g l:=by
 have e1:=dJ (f:=fun x=>f x - g x) (g:=g) l
 have e2:sQ (fun x=>f x - g x+g x) l=sQ f l:=aE fun x _=>by grind
 grind
theorem AO {ws:List Wk} {lys:List Ly} (ok:∀ w∈ws,bF w) (h:gY ws (List.range 24) lys) {t:Nat} (ht:t < 24):(eV (Wt (fW ws) (be ws) t) (aS ws ws.length) (cr (aS ws ws.length) (fW ws) (be ws) (aW ws) (dF (aP ws lys)) t) (dF (aP ws lys) t)).2=0:=by
 have E:=sX (ws:=ws) ok h
 have tot:sQ (fun t=>(eV (Wt (fW ws) (be ws) t) (aS ws ws.length) (cr (aS ws ws.length) (fW ws) (be ws) (aW ws) (dF (aP ws lys)) t) (dF (aP ws lys) t)).2) (List.range 24)=0:=by
  have e1:sQ (fun t=>(eV (Wt (fW ws) (be ws) t) (aS ws ws.length) (cr (aS ws ws.length) (fW ws) (be ws) (aW ws) (dF (aP ws lys)) t) (dF (aP ws lys) t)).2) (List.range 24)=sQ (fun t=>dF (aP ws lys) t - sQ (fun j=>cr (aS ws ws.length) (fW ws) (be ws) (aW ws) (dF (aP ws lys)) t j - cr (aS ws ws.length) (fW ws) (be ws) (aW ws) (dF (aP ws lys)) (t+1) j) (List.range ws.length)) (List.range 24):=aE fun t _=>by
   have:=E.sum t
   grind
  rw [e1,EM,oS]
  have e2:sQ (fun j=>sQ (fun t=>cr (aS ws ws.length) (fW ws) (be ws) (aW ws) (dF (aP ws lys)) t j - cr (aS ws ws.length) (fW ws) (be ws) (aW ws) (dF (aP ws lys)) (t+1) j) (List.range 24)) (List.range ws.length)=sQ (aW ws) (List.range ws.length):=aE fun j hj=>by
   have te:=ul (fun t=>cr (aS ws ws.length) (fW ws) (be ws) (aW ws) (dF (aP ws lys)) t j) 0 24 (by decide)
   have z:=KM E (List.mem_range.mp hj)
   have e:sQ (fun t=>cr (aS ws ws.length) (fW ws) (be ws) (aW ws) (dF (aP ws lys)) t j - cr (aS ws ws.length) (fW ws) (be ws) (aW ws) (dF (aP ws lys)) (t+1) j) (List.range 24)=sQ (fun t=>bD (decide (0≤t)) (cr (aS ws ws.length) (fW ws) (be ws) (aW ws) (dF (aP ws lys)) t j - cr (aS ws ws.length) (fW ws) (be ws) (aW ws) (dF (aP ws lys)) (t+1) j)) (List.range 24):=aE fun t _=>by rw [decide_eq_true (Nat.zero_le _),cm]
   rw [e,te]
   rw [z]
   show aW ws j - 0=aW ws j
   grind
  have e3:sQ (dF (aP ws lys)) (List.range 24)=sQ (aW ws) (List.range ws.length):=by
   have sa:=Ed ok h (fun _=>true) (List.filter_eq_self.mpr fun _ _=>rfl).symm
   have e0:FM ws (fun t=>!(fun _=>true) t)=0:=vc ok
   rw [e0,Di,gc bC] at sa
   have e4:sQ (dF (aP ws lys)) (List.range 24)=sQ (fun t=>bD true (gJ ws lys t)) (List.range 24):=aE fun t ht=>by
    rw [cm]
    exact jg h (List.mem_range.mp ht) _
   have e5:sQ (fun i=>gE (ws.getD i bC)) (List.range ws.length)=sQ (aW ws) (List.range ws.length):=aE fun j hj=>(uW (List.mem_range.mp hj)).symm
   rw [e4,sa,e5]
   grind
  rw [e2]
  have e3':sQ (fun t=>dF (aP ws lys) t) (List.range 24)=sQ (aW ws) (List.range ws.length):=e3
  rw [e3']
  grind
 exact gM (fun t _=>(E.sti (E.nn t) t).rm) tot t (List.mem_range.mpr ht)
theorem xf {ws:List Wk} {lys:List Ly} (ok:∀ w∈ws,bF w) (h:gY ws (List.range 24) lys) (hs:∀ r∈aP ws lys,eM r) {t:Nat} (ht:t < 24):sQ (fun p:Pc=>val p.2) (eU ws (aS ws ws.length) t (bb ws (aS ws ws.length) (aP ws lys) t).1 ((aP ws lys).getD t (0,1))).2.2=gJ ws lys t:=by
 have oi:=dU (ws:=ws) ws.length (Nat.le_refl _)
 have nd:=ph (ws:=ws) ws.length (Nat.le_refl _)
 have p:=(zm (ord:=aS ws ws.length) ok oi.lt nd hs t)
 have u:=AO (ws:=ws) ok h ht
 have q:=mr (ws:=ws) (t:=t) (n:=ws.length) (ord:=aS ws ws.length) (st:=((bb ws (aS ws ws.length) (aP ws lys) t).1,(aP ws lys).getD t (0,1),[])) (by
  obtain⟨hh,_⟩:=fk (ord:=aS ws ws.length) (ss:=aP ws lys) ok oi.lt hs t
  exact⟨hh.len,hh.lf,fo (n:=0) hs t,fun p hp=>by cases hp⟩) oi.lt
 have e:=congrArg Prod.snd q
 have e':val (eU ws (aS ws ws.length) t (bb ws (aS ws ws.length) (aP ws lys) t).1 ((aP ws lys).getD t (0,1))).2.1=(eV (Wt (fW ws) (be ws) t) (aS ws ws.length) (dF (bb ws (aS ws ws.length) (aP ws lys) t).1) (dF (aP ws lys) t)).2:=e
 rw [jk ok oi.lt hs t,u] at e'
 have sm:=p.sum
 rw [e'] at sm
 have sv:=jg h ht (0,1)
 rw [← sv]
 grind
def cF (pl:List (List Pc)) (t k:Nat):Pc:=(pl.getD t []).getD k (0,(0,1))
def MT (pl:List (List Pc)) (t k i:Nat):List (Nat×Nat):=((List.range k).filter fun j=>decide ((cF pl t j).1=i)).map fun j=>(t,j)
def MS (pl:List (List Pc)):Nat->Nat->List (Nat×Nat)
 | 0,_=>[]
 | t+1,i=>MS pl t i++MT pl t (pl.getD t []).length i
def uJ (pl:List (List Pc)) (t i:Nat) (r:R):Nat->R
 | 0=>r
 | k+1=>if (cF pl t k).1=i then bM (uJ pl t i r k) (cF pl t k).2 else uJ pl t i r k
def A4 (pl:List (List Pc)) (i:Nat):Nat->R
 | 0=>(0,1)
 | t+1=>uJ pl t i (A4 pl i t) (pl.getD t []).length
structure uY (ws:List Wk) (pl:List (List Pc)):Prop where
 len:pl.length=24
 few:∀ t,(pl.getD t []).length≤20
 pc:∀ t k,t < 24->k < (pl.getD t []).length->(cF pl t k).1 < ws.length/\eM (cF pl t k).2/\0 < val (cF pl t k).2/\gm (ws.getD (cF pl t k).1 bC) t=true
 nd:∀ t j k,t < 24->j < k->k < (pl.getD t []).length->(cF pl t j).1≠(cF pl t k).1
 fin:∀ i,i < ws.length->A4 pl i 24=(ws.getD i bC).2.2
theorem AC {pl:List (List Pc)} {t i:Nat} {r:R} {N:Nat} (h:Bq (84 * 5354228880 ^ 24) N r):∀ k,k≤(pl.getD t []).length->(∀ j,j < (pl.getD t []).length->eM (cF pl t j).2)->Bq (84 * 5354228880 ^ 24) (N+256 * k) (uJ pl t i r k)
 | 0,_,_=>h
 | k+1,hk,ha=>by
  have ih:=AC (i:=i) h k (by omega) ha
  show Bq _ _ (if (cF pl t k).1=i then bM (uJ pl t i r k) (cF pl t k).2 else uJ pl t i r k)
  split
  ·exact (Bq.plus (by decide) ih (ha k (by omega)).bq).mono (Nat.dvd_refl _) (by omega)
  ·exact ih.mono (Nat.dvd_refl _) (by omega)
theorem AA {ws:List Wk} {pl:List (List Pc)} (few:∀ t,(pl.getD t []).length≤20) (pc:∀ t k,t < 24->k < (pl.getD t []).length->eM (cF pl t k).2) (i:Nat):∀ t,t≤24->Bq (84 * 5354228880 ^ 24) (5120 * t) (A4 pl i t)
 | 0,_=>(C1.mono (Nat.dvd_refl _) (Nat.le_refl _))
 | t+1,h=>by
  have f:=few t
  exact (AC (AA (ws:=ws) few pc i t (by omega)) _ (Nat.le_refl _) fun j hj=>pc t j (by omega) hj).mono (Nat.dvd_refl _) (by omega)
theorem pS {pl:List (List Pc)} {t i:Nat} {r:R} (hr:0 < r.2):∀ k,(∀ j,j < k->0 < (cF pl t j).2.2)->0 < (uJ pl t i r k).2/\val (uJ pl t i r k)=val r+sQ (fun j=>bD (decide ((cF pl t j).1=i)) (val (cF pl t j).2)) (List.range k)
 | 0,_=>⟨hr,by show val r=val r+0;grind⟩
 | k+1,h=>by
  obtain⟨p,e⟩:=pS (i:=i) hr k fun j hj=>h j (by omega)
  have hk:=h k (by omega)
  rw [List.range_succ,dI]
  show 0 < (if (cF pl t k).1=i then bM (uJ pl t i r k) (cF pl t k).2 else uJ pl t i r k).2/\val (if (cF pl t k).1=i then bM (uJ pl t i r k) (cF pl t k).2 else uJ pl t i r k)=val r+(_+(bD (decide ((cF pl t k).1=i)) (val (cF pl t k).2)+0))
  by_cases c:(cF pl t k).1=i
  ·rw [if_pos c,decide_eq_true c,cm]
   refine⟨(jo (Int.mul_pos p hk)).pos,?_⟩
   rw [jc p hk,e]
   grind
  ·rw [if_neg c,decide_eq_false c,bJ,e]
   exact⟨p,by grind⟩
theorem nE {ws:List Wk} {ord:List Nat} {ss:List R}:∀ {N t:Nat},t < N->(bb ws ord ss N).2.length=N->(bb ws ord ss N).2.getD t []=(eU ws ord t (bb ws ord ss t).1 (ss.getD t (0,1))).2.2
 | 0,t,h,_=>absurd h (Nat.not_lt_zero _)
 | N+1,t,h,hl=>by
  have e:(bb ws ord ss (N+1)).2=(bb ws ord ss N).2++[(eU ws ord N (bb ws ord ss N).1 (ss.getD N (0,1))).2.2]:=rfl
  have l:(bb ws ord ss N).2.length=N:=by
   rw [e,List.length_append] at hl
   have:[(eU ws ord N (bb ws ord ss N).1 (ss.getD N (0,1))).2.2].length=1:=rfl
   omega
  rw [e,List.getD_eq_getElem?_getD]
  by_cases c:t < N
  ·rw [List.getElem?_append_left (by omega),← List.getD_eq_getElem?_getD]
   exact nE c l
  ·have:t=N:=by omega
   subst this
   rw [List.getElem?_append_right (by omega),l,Nat.sub_self]
   rfl
theorem um {q:List Pc} {i:Nat} {f:Pc->Rat} (nd:(q.map (·.1)).Nodup):sQ (fun p:Pc=>bD (decide (p.1=i)) (f p)) q=0∨∃ p∈q,p.1=i/\sQ (fun p:Pc=>bD (decide (p.1=i)) (f p)) q=f p:=by
 induction q with
 | nil=>exact .inl rfl
 | cons p q ih=>
  have nd':(p.1 :: q.map (·.1)).Nodup:=nd
  obtain⟨n1,n2⟩:=List.nodup_cons.mp nd'
  by_cases c:p.1=i
  ·refine .inr ⟨p,List.mem_cons_self,c,?_⟩
   have z:sQ (fun p:Pc=>bD (decide (p.1=i)) (f p)) q=sQ (fun _:Pc=>0 * (0:Rat)) q:=aE fun x hx=>by
    rw [decide_eq_false (fun e=>n1 (by rw [c,← e];exact List.mem_map.mpr ⟨x,hx,rfl⟩)),bJ]
    grind
   show bD (decide (p.1=i)) (f p)+sQ _ q=f p
   rw [z,c9,decide_eq_true c,cm]
   grind
  ·have e:sQ (fun p:Pc=>bD (decide (p.1=i)) (f p)) (p :: q)=sQ (fun p:Pc=>bD (decide (p.1=i)) (f p)) q:=by
    show bD (decide (p.1=i)) (f p)+sQ _ q=_
    rw [decide_eq_false c,bJ]
    grind
   rw [e]
   rcases ih n2 with z | ⟨x,hx,e1,e2⟩
   ·exact .inl z
   ·exact .inr ⟨x,List.mem_cons_of_mem _ hx,e1,e2⟩
structure Ml (K:PySem.W.Frag) (H:Hp) (v:V) (ws:List Wk):Prop where
 sv:Mj K H v ws
 w8:ws.length≤20
 ok:∀ w∈ws,bF w
inductive jH (K:PySem.W.Frag) (vs:List V) (H:Hp) (Q:VK):Prop where
 | mk (v:V) (ws:List Wk) (h0_:vs=[v]) (h1_:Mj K H v ws) (h2_:ws.length≤20) (h3_:(∀ w∈ws,bF w)) (h4_:∀ (u:V) (H':Hp),aB H H'->eD K H' u ws->Q u H'):jH K vs H Q
def qy (K:PySem.W.Frag):Sp:=fun vs H Q _=>jH K vs H Q
inductive hJ (K:PySem.W.Frag) (vs:List V) (H:Hp) (Q:VK):Prop where
 | mk (v:V) (ws:List Wk) (h0_:vs=[v]) (h1_:Ml K H v ws) (h2_:∀ (lys:List Ly) (w:V) (H':Hp),aB H H'->gY ws (List.range 24) lys->bw K H' w (KQ (c5 ws (aP ws lys)).2)->Q w H'):hJ K vs H Q
def mU (K:PySem.W.Frag):Sp:=fun vs H Q _=>hJ K vs H Q
theorem l9 {ws:List Wk} {ls:List Nat} {lys:List Ly} (h:gY ws ls lys):ls.length≤24->(∀ t∈ls,t < 24)->∀ y∈lys,j5 ws.length y:=by
 induction h with
 | nil _=>intro _ _ y hy;cases hy
 | cons h tl ih=>
  intro h1 h2 y hy
  rcases List.mem_cons.mp hy with z | z
  ·rw [z];exact Ac h.1.inn h1 h2
  ·exact ih (Nat.le_trans (List.length_filter_le _ _) h1) (fun t ht=>h2 t (List.mem_filter.mp ht).1) y z
theorem lj {ws:List Wk} {lys:List Ly} (ok:∀ w∈ws,bF w) (hw:ws.length≤20) (lok:∀ y∈lys,j5 ws.length y):∀ r∈aP ws lys,eM r:=fun r hr=>(xI (ss:=List.replicate 24 (0,1)) ok hw lok (fun r hr=>by rw [List.eq_of_mem_replicate hr];exact⟨C1.mono (Nat.dvd_refl _) (by decide),Int.le_refl _⟩) r hr).am (by decide)
def Oc (K:PySem.W.Frag) (C:Addr) (H:Hp) (u:V) (pd:PyData):Option Nat->Prop
 | none=>∃ p x l,u=.ref p/\bt K H p [x,.ref l]/\bw K H x pd/\H l=some (.lst [])
 | some i=>∃ p l x dd,u=.ref p/\bt K H p [.ref x,.ref l]/\H x=some (Jd x C dd)/\H dd=some (dO dd [("work", .int (i:Nat))])/\H l=some (.lst [.bl true,.bl true,.bl true,.bl false])
theorem AF {K:PySem.W.Frag} {H:Hp} {v:V} {r:R} (d:bw K H v (dR r)):RV K H v r:=by
 cases d with
 | @tup q zs _ hS2 hA2=>
  cases hA2 with
  | cons e1 e2=>
   cases e2 with
   | cons e3 e4=>
    cases e1
    cases e3
    cases e4
    exact⟨q,rfl,hS2⟩
theorem CS {K:PySem.W.Frag} {H:Hp} {v:V} {c:Pc} (d:bw K H v (KR c)):wW K H v c:=by
 cases d with
 | @tup q zs _ hS2 hA2=>
  cases hA2 with
  | cons e1 e2=>
   cases e2 with
   | cons e3 e4=>
    cases e1
    cases e4
    exact⟨q,_,rfl,hS2,AF e3⟩
theorem mC {α:Type} {K:PySem.W.Frag} {H:Hp} {f:α->PyData} {P:V->α->Prop} (h:∀ v x,bw K H v (f x)->P v x):∀ {l:List α} {xs:List V},bz K H xs (l.map f)->cn P xs l
 | [],_,d=>by cases d;exact .nil
 | x :: l,_,d=>by
  cases d with
  | cons d1 d2=>exact .cons (h _ _ d1) (mC h d2)
theorem CP {K:PySem.W.Frag} {H:Hp} {v:V} {q:List Pc} (d:bw K H v (KO q)):rp K H v q:=by
 cases d with
 | @tup p xs _ hS hA=>exact⟨p,xs,rfl,hS,mC (P:=wW K H) (fun _ _ z=>CS z) hA⟩
theorem CQ {K:PySem.W.Frag} {H:Hp} {u:V} {pl:List (List Pc)} (d:bw K H u (KQ pl)):∃ p xs,u=.ref p/\bt K H p xs/\cn (rp K H) xs pl:=by
 cases d with
 | @tup p xs _ hS hA=>exact⟨p,xs,rfl,hS,mC (P:=rp K H) (fun _ _ z=>CP z) hA⟩
def Nr (K:PySem.W.Frag) (H:Hp) (v:V) (x:Nat×Nat):Prop:=∃ p,v=.ref p/\bt K H p [.int (x.1:Nat),.int (x.2:Nat)]
structure Oe (K:PySem.W.Frag) (H:Hp) (D:Addr) (rows:List Addr) (n:Nat) (S:Nat->List (Nat×Nat)):Prop where
 top:H D=some (.lst (rows.map V.ref))
 len:rows.length=n
 nd:rows.Nodup
 ne:D∉rows
 row:∀ i r,rows[i]?=some r->∃ ys,H r=some (.lst ys)/\cn (Nr K H) ys (S i)
def N9 (K:PySem.W.Frag) (t s lw:Addr) (m:Int) (en i:Nat) (r:Int) (H1:Hp):L2.St->Hp->Prop:=fun σ H'=>∃ a b:Nat,σ=[some (.ref t),some (.int m),some (.int en),some (.ref lw),some (.int (i:Nat)),some (.int (a:Nat)),some (.int (b:Nat)),some (.int r)]/\a≤b/\b < 24/\dB t H1 H'/\uX K H' t s
theorem wI {z:Int} (h0:0≤z) (h:z≤(64512 * 5354228880 ^ 23)):z.natAbs < 2 ^ 8990:=Nat.lt_of_le_of_lt (show z.natAbs≤(64512 * 5354228880 ^ 23) by omega) (by decide)
inductive mL (K_:PySem.W.Frag) (C:Addr) (vs:List V) (H:Hp) (Q:VK):Prop where
 | mk (a:Addr) (v:V) (h0_:vs=[.ref a,v]) (h1_:H a=some (q5 a C none)) (h2_:∀ d,H d=none->d≠a->Q .non (aG (aG H a (q5 a C (some d))) d (dO d [("text", v)]))):mL K_ C vs H Q
def G0 (K_:PySem.W.Frag) (C:Addr):Sp:=fun vs H Q _=>mL K_ C vs H Q
inductive mM (K_:PySem.W.Frag) (C:Addr) (vs:List V) (H:Hp) (Q:VK):Prop where
 | mk (a:Addr) (v:V) (h0_:vs=[.ref a,v]) (h1_:H a=some (q5 a C none)) (h2_:∀ d,H d=none->d≠a->Q .non (aG (aG H a (q5 a C (some d))) d (dO d [("text", v)]))):mM K_ C vs H Q
def G1 (K_:PySem.W.Frag) (C:Addr):Sp:=fun vs H Q _=>mM K_ C vs H Q
inductive jF (K:PySem.W.Frag) (vs:List V) (H:Hp) (Q:VK):Prop where
 | mk (v:V) (d:PyData) (h0_:vs=[v]) (h1_:bw K H v d) (h2_:Q (.bl (f8 d)) H):jF K vs H Q
def qw (K:PySem.W.Frag):Sp:=fun vs H Q _=>jF K vs H Q
inductive gx (K:PySem.W.Frag) (vs:List V) (H:Hp) (Q:VK):Prop where
 | mk (v:V) (d:PyData) (m:Nat) (h0_:vs=[v,.int m]) (h1_:bw K H v d) (h2_:Q (.bl (oy m d)) H):gx K vs H Q
def lE (K:PySem.W.Frag):Sp:=fun vs H Q _=>gx K vs H Q
inductive jG (K:PySem.W.Frag) (vs:List V) (H:Hp) (Q:VK):Prop where
 | mk (v:V) (d:PyData) (h0_:vs=[v]) (h1_:bw K H v d) (h2_:Q (.bl (jU d)) H):jG K vs H Q
def qx (K:PySem.W.Frag):Sp:=fun vs H Q _=>jG K vs H Q
theorem iT {d:PyData} (h:f8 d=true):∃ i,d=.int i:=by
 cases d with
 | int i=>exact⟨i,rfl⟩
 | _=>cases h
theorem HV {x y:PyData} (h:f8 x=false):jU (.tuple [x,y])=false:=by
 cases x with
 | int i=>cases h
 | _=>rfl
theorem HU {x y:PyData} (h:f8 y=false):jU (.tuple [x,y])=false:=by
 cases y with
 | int i=>cases h
 | _=>cases x <;> rfl
def lY (m:Int):PyData->Bool
 | .int i=>decide (0≤i) && decide (i < m)
 | _=>false
def dA:PyData->Bool
 | .tuple [.int a,.int b]=>(decide (1≤b) && decide (Int.gcd a b=1)) && decide (0 < a)
 | _=>false
def Kz:PyData->PyData->Bool
 | .int i,.int j=>decide (i≤j)
 | _,_=>false
def NZ:PyData->PyData->Bool
 | .int i,.int j=>!decide (i=j)
 | _,_=>false
def m6:PyData->Bool
 | .tuple [a,b,c]=>lY 24 a && (lY 24 b && (Kz a b && dA c))
 | _=>false
inductive fX (K:PySem.W.Frag) (vs:List V) (H:Hp) (Q:VK):Prop where
 | mk (v:V) (d:PyData) (m:Int) (h0_:vs=[v,.int m]) (h1_:bw K H v d) (h2_:Q (.bl (lY m d)) H):fX K vs H Q
def km (K:PySem.W.Frag):Sp:=fun vs H Q _=>fX K vs H Q
inductive eK (K:PySem.W.Frag) (vs:List V) (H:Hp) (Q:VK):Prop where
 | mk (v:V) (d:PyData) (h0_:vs=[v]) (h1_:bw K H v d) (h2_:Q (.bl (dA d)) H):eK K vs H Q
def iY (K:PySem.W.Frag):Sp:=fun vs H Q _=>eK K vs H Q
inductive kh (K:PySem.W.Frag) (vs:List V) (H:Hp) (Q:VK):Prop where
 | mk (v:V) (d:PyData) (h0_:vs=[v]) (h1_:bw K H v d) (h2_:Q (.bl (m6 d)) H):kh K vs H Q
def rP (K:PySem.W.Frag):Sp:=fun vs H Q _=>kh K vs H Q
theorem lX {m:Int} {d:PyData} (h:lY m d=true):∃ i,d=.int i/\0≤i/\i < m:=by
 cases d with
 | int i=>
  have h':(decide (0≤i) && decide (i < m))=true:=h
  rw [Bool.and_eq_true,decide_eq_true_iff,decide_eq_true_iff] at h'
  exact⟨i,rfl,h'⟩
 | _=>cases h
theorem Ct {m:Int} {d:PyData} (h:f8 d=false):lY m d=false:=by
 cases d with
 | int i=>cases h
 | _=>rfl
theorem yT {d:PyData} (h:jU d=true):∃ i j,d=.tuple [.int i,.int j]:=by
 unfold jU at h
 split at h
 ·exact⟨_,_,rfl⟩
 ·cases h
theorem wJ {d:PyData} (h:jU d=false):dA d=false:=by
 cases c:dA d with
 | false=>rfl
 | true=>
  unfold dA at c
  split at c
  ·rename_i a b
   rw [Bool.and_eq_true] at c
   have h':(decide (1≤b) && decide (Int.gcd a b=1))=false:=h
   rw [h'] at c
   cases c.1
  ·cases c
theorem tG {i j:Int} (h:jU (.tuple [.int i,.int j])=true):dA (.tuple [.int i,.int j])=decide (0 < i):=by
 show ((decide (1≤j) && decide (Int.gcd i j=1)) && decide (0 < i))=_
 have h':(decide (1≤j) && decide (Int.gcd i j=1))=true:=h
 rw [h',Bool.true_and]
theorem bw.three {K:PySem.W.Frag} {H:Hp} {v:V} {d:PyData} (h:bw K H v d) (c:oy 3 d=true):∃ a x y z dx dy dz,v=.ref a/\d=.tuple [dx,dy,dz]/\bt K H a [x,y,z]/\bw K H x dx/\bw K H y dy/\bw K H z dz:=by
 cases h with
 | tup e t=>
  have l:=of_decide_eq_true (show decide (_=3)=true from c)
  cases t with
  | nil=>cases l
  | cons a t=>
   cases t with
   | nil=>cases l
   | cons b t=>
    cases t with
    | nil=>cases l
    | cons c' t=>
     cases t with
     | nil=>exact⟨_,_,_,_,_,_,_,rfl,rfl,e,a,b,c'⟩
     | cons _ _=>simp at l
 | _=>cases c
theorem wY {d:PyData} (h:oy 3 d=false):m6 d=false:=by
 cases c:m6 d with
 | false=>rfl
 | true=>
  unfold m6 at c
  split at c
  ·cases h
  ·cases c
inductive jE (K_:PySem.W.Frag) (vs:List V) (H:Hp) (Q:VK):Prop where
 | mk (a b:Int) (h0_:vs=[.int a,.int b]) (h1_:0 < b) (h2_:b.natAbs < 2 ^ 8990) (h3_:mY H Q (eG a b)):jE K_ vs H Q
def qr (K_:PySem.W.Frag):Sp:=fun vs H Q _=>jE K_ vs H Q
structure d9 (H:Hp) (t l:Addr):Prop where
 ex:∃ (ns:List Int) (p:Int),H t=some (.lst [.ref l,.int p])/\H l=some (.lst (ns.map V.int))/\l≠t/\0 < ns.length/\ns.length≤1000
theorem d9.lst {H:Hp} {t l:Addr} (h:d9 H t l):∃ xs,H t=some (.lst xs):=let ⟨_,_,e,_⟩:=h.ex;⟨_,e⟩
theorem d9.same {H H':Hp} {t l:Addr} (h:d9 H t l) (s:aB H H'):d9 H' t l:=let ⟨ns,p,a,b,c⟩:=h.ex;⟨ns,p,s _ _ a,s _ _ b,c⟩
inductive jB (K_:PySem.W.Frag) (vs:List V) (H:Hp) (Q:VK):Prop where
 | mk (t l:Addr) (m:Int) (h0_:vs=[.ref t,.int m]) (h1_:d9 H t l) (h2_:0 < m) (h3_:m < 1073741824) (h4_:∀ (r:Int) (xs:List V),0≤r->r < m->d9 (aG H t (.lst xs)) t l->Q (.int r) (aG H t (.lst xs))):jB K_ vs H Q
def qm (K_:PySem.W.Frag):Sp:=fun vs H Q _=>jB K_ vs H Q
inductive gw (K:PySem.W.Frag) (vs:List V) (H:Hp) (Q:VK):Prop where
 | mk (a:Addr) (ns:List Int) (k:Nat) (h0_:vs=[.ref a,.int k]) (h1_:aU K H a (ns.map V.int)) (h2_:∀ z:Int,Q (.int z) H):gw K vs H Q
def lD (K:PySem.W.Frag):Sp:=fun vs H Q _=>gw K vs H Q
inductive iM (K_:PySem.W.Frag) (vs:List V) (H:Hp) (Q:VK):Prop where
 | mk (c:Int) (m:Nat) (h0_:vs=[.int c,.int m]) (h1_:0 < m) (h2_:m≤1000) (h3_:∀ (l:Addr) (ns:List Int) (H':Hp),aB H H'->H l=none->H' l=some (.lst (ns.map V.int))->ns.length=m->Q (.ref l) H'):iM K_ vs H Q
def oF (K_:PySem.W.Frag):Sp:=fun vs H Q _=>iM K_ vs H Q
theorem gj {ws:List Wk} (ok:∀ w∈ws,bF w) (w8:ws.length≤20) {lys:List Ly} (h:gY ws (List.range 24) lys):uY ws (c5 ws (aP ws lys)).2:=by
 have hs:=lj ok w8 (l9 h (by decide) fun t ht=>List.mem_range.mp ht)
 have oi:=dU (ws:=ws) ws.length (Nat.le_refl _)
 have nd:=ph (ws:=ws) ws.length (Nat.le_refl _)
 have E:=sX (ws:=ws) ok h
 obtain⟨po,pl24⟩:=fk (ord:=aS ws ws.length) (ss:=aP ws lys) ok oi.lt hs 24
 have PC:=fun t=>zm (ord:=aS ws ws.length) ok oi.lt nd hs t
 have at_:∀ t,t < 24->(c5 ws (aP ws lys)).2.getD t []=(eU ws (aS ws ws.length) t (bb ws (aS ws ws.length) (aP ws lys) t).1 ((aP ws lys).getD t (0,1))).2.2:=fun t ht=>nE ht pl24
 have pv:=fun t=>jk (ord:=aS ws ws.length) (ss:=aP ws lys) ok oi.lt hs t
 generalize hpl:(c5 ws (aP ws lys)).2=pl at at_
 have plen:pl.length=24:=by rw [← hpl];exact pl24
 have few:∀ t,(pl.getD t []).length≤20:=fun t=>by
  rw [List.getD_eq_getElem?_getD]
  cases e:pl[t]? with
  | none=>exact Nat.zero_le _
  | some q=>
   have m:q∈(bb ws (aS ws ws.length) (aP ws lys) 24).2:=by
    have:=List.mem_of_getElem? e
    rw [← hpl] at this
    exact this
   have:=(po.pc q m).1
   have l:=oi.len
   show q.length≤20
   omega
 have mem:∀ t k,t < 24->k < (pl.getD t []).length->((cF pl t k).1,(cF pl t k).2)∈(eU ws (aS ws ws.length) t (bb ws (aS ws ws.length) (aP ws lys) t).1 ((aP ws lys).getD t (0,1))).2.2:=fun t k ht hk=>by
  rw [← at_ t ht]
  unfold cF
  rw [av (0,(0,1)) (List.getElem?_eq_getElem hk)]
  exact List.getElem_mem hk
 have pc:∀ t k,t < 24->k < (pl.getD t []).length->(cF pl t k).1 < ws.length/\gm (ws.getD (cF pl t k).1 bC) t=true/\eM (cF pl t k).2/\0 < val (cF pl t k).2:=fun t k ht hk=>by
  have m:=mem t k ht hk
  obtain⟨a,b,c,_⟩:=(PC t).pc _ _ m
  exact⟨((PC t).ok.pc _ m).1,a,b,c⟩
 have ndt:∀ t,t < 24->((pl.getD t []).map (·.1)).Nodup:=fun t ht=>by
  rw [at_ t ht]
  exact (PC t).sub.nodup nd
 have ndj:∀ t j k,t < 24->j < k->k < (pl.getD t []).length->(cF pl t j).1≠(cF pl t k).1:=fun t j k ht hj hk=>by
  have p:=List.pairwise_iff_getElem.mp (ndt t ht) j k (by rw [List.length_map];omega) (by rw [List.length_map];exact hk) hj
  unfold cF
  rw [av (0,(0,1)) (List.getElem?_eq_getElem (show j < (pl.getD t []).length by omega)),av (0,(0,1)) (List.getElem?_eq_getElem hk)]
  rw [List.getElem_map,List.getElem_map] at p
  exact p
 have turnv:∀ t i,t < 24->sQ (fun j=>bD (decide ((cF pl t j).1=i)) (val (cF pl t j).2)) (List.range (pl.getD t []).length)=dF (bb ws (aS ws ws.length) (aP ws lys) t).1 i - dF (bb ws (aS ws ws.length) (aP ws lys) (t+1)).1 i:=fun t i ht=>by
  have e:sQ (fun j=>bD (decide ((cF pl t j).1=i)) (val (cF pl t j).2)) (List.range (pl.getD t []).length)=sQ (fun p:Pc=>bD (decide (p.1=i)) (val p.2)) (pl.getD t []):=(gc (f:=fun p:Pc=>bD (decide (p.1=i)) (val p.2)) (0,(0,1)) (pl.getD t [])).symm
  rw [e]
  by_cases c:i∈(pl.getD t []).map (·.1)
  ·obtain⟨⟨i',r⟩,hm,e1⟩:=List.mem_map.mp c
   have e1':i'=i:=e1
   subst e1'
   rcases um (i:=i') (f:=fun p:Pc=>val p.2) (ndt t ht) with z | ⟨p,hp,e2,e3⟩
   ·exfalso
    have hm':=hm
    rw [at_ t ht] at hm'
    obtain⟨_,_,v0,_⟩:=(PC t).pc _ _ hm'
    have:=gM (f:=fun p:Pc=>bD (decide (p.1=i')) (val p.2)) (l:=pl.getD t []) (fun x hx=>dM _ (by
     have hx':=hx
     rw [at_ t ht] at hx'
     obtain⟨_,_,w0,_⟩:=(PC t).pc x.1 x.2 hx'
     exact Rat.le_of_lt w0)) z _ hm
    rw [decide_eq_true rfl,cm] at this
    have this':val r=0:=this
    grind
   ·rw [e3]
    have hp':=hp
    rw [at_ t ht] at hp'
    obtain⟨_,_,_,v1⟩:=(PC t).pc p.1 p.2 hp'
    rw [e2] at v1
    exact v1
  ·have z:sQ (fun p:Pc=>bD (decide (p.1=i)) (val p.2)) (pl.getD t [])=sQ (fun _:Pc=>0 * (0:Rat)) (pl.getD t []):=aE fun x hx=>by
    rw [decide_eq_false (fun e=>c (by rw [← e];exact List.mem_map.mpr ⟨x,hx,rfl⟩)),bJ]
    grind
   rw [at_ t ht] at c
   have u:=(PC t).un i c
   have u':dF (bb ws (aS ws ws.length) (aP ws lys) (t+1)).1 i=dF (bb ws (aS ws ws.length) (aP ws lys) t).1 i:=congrArg val u
   rw [z,c9,u']
   grind
 have dnv:∀ i t,t≤24->0 < (A4 pl i t).2/\val (A4 pl i t)=dF (bb ws (aS ws ws.length) (aP ws lys) 0).1 i - dF (bb ws (aS ws ws.length) (aP ws lys) t).1 i:=fun i t=>by
  induction t with
  | zero=>intro _;exact⟨by show (0:Int) < 1;decide,by show val ((0,1):R)=_;rw [m9];grind⟩
  | succ t ih=>
   intro ht
   obtain⟨p,e⟩:=ih (by omega)
   obtain⟨p2,e2⟩:=pS (pl:=pl) (t:=t) (i:=i) p (pl.getD t []).length fun j hj=>(pc t j (by omega) hj).2.2.1.bq.pos
   refine⟨p2,?_⟩
   show val (uJ pl t i (A4 pl i t) (pl.getD t []).length)=_
   rw [e2,e,turnv t i (by omega)]
   grind
 have a0:∀ i,i < ws.length->val (A4 pl i 24)=gE (ws.getD i bC):=fun i hi=>by
  have e:=(dnv i 24 (Nat.le_refl _)).2
  rw [pv 24,KM E hi] at e
  have z:dF (bb ws (aS ws ws.length) (aP ws lys) 0).1 i=gE (ws.getD i bC):=by
   rw [pv 0]
   exact uW hi
  rw [z] at e
  rw [e]
  grind
 refine⟨plen,few,fun t k ht hk=>?_,ndj,fun i il=>?_⟩
 ·obtain⟨p1,p2,p3,p4⟩:=pc t k ht hk
  exact⟨p1,p3,p4,p2⟩
 ·have o:=(ok _ (List.getElem_mem il)).am
  have bq:=AA (ws:=ws) few (fun t k ht hk=>(pc t k ht hk).2.2.1) i 24 (Nat.le_refl _)
  refine eN bq.red ?_ (a0 i il)
  rw [av bC (List.getElem?_eq_getElem il)]
  exact (uS o).red
structure dW where
 tn:Nat
 kn:List Wk
 rs:List R
 dn:List (List Pc)
def A3 (t:Nat) (lk lr ld:Addr):List (Str×V):=[("turn", .int t),("known", .ref lk),("rest", .ref lr),("done", .ref ld)]
structure kg (K:PySem.W.Frag) (C:Addr) (H:Hp) (a lk lr ld:Addr) (s:dW):Prop where
 ins:∃ dx,H a=some (.ins C dx (A3 s.tn lk lr ld))
 hk:∃ xs,H lk=some (.lst xs)/\cn (AS K H) xs s.kn
 hr:∃ xs,H lr=some (.lst xs)/\cn (RV K H) xs s.rs
 hd:∃ xs,H ld=some (.lst xs)/\cn (rp K H) xs s.dn
 n1:lk≠lr
 n2:lk≠ld
 n3:lr≠ld
theorem kg.same {K:PySem.W.Frag} {C:Addr} {H H':Hp} {a lk lr ld:Addr} {s:dW} (h:kg K C H a lk lr ld s) (z:aB H H'):kg K C H' a lk lr ld s:=by
 obtain⟨dx,i⟩:=h.ins
 obtain⟨x,k1,k2⟩:=h.hk
 obtain⟨y,r1,r2⟩:=h.hr
 obtain⟨u,d1,d2⟩:=h.hd
 have t:=aN.same (K:=K) z
 exact⟨⟨dx,z _ _ i⟩,⟨x,z _ _ k1,k2.mono fun _ _ q=>q.mono t⟩,⟨y,z _ _ r1,r2.mono fun _ _ q=>q.mono t⟩,⟨u,z _ _ d1,d2.mono fun _ _ q=>q.mono t⟩,h.n1,h.n2,h.n3⟩
def GK (a lk lr ld:Addr) (H H':Hp):Prop:=∀ b o,b≠a->b≠lk->b≠lr->b≠ld->H b=some o->H' b=some o
theorem kg.tst {K:PySem.W.Frag} {C:Addr} {H H':Hp} {a lk lr ld:Addr} {s:dW} (h:kg K C H a lk lr ld s) (z:GK a lk lr ld H H'):aN K H H':=by
 obtain⟨dx,i⟩:=h.ins
 obtain⟨x,k1,_⟩:=h.hk
 obtain⟨y,r1,_⟩:=h.hr
 obtain⟨u,d1,_⟩:=h.hd
 intro p xs q
 rcases q with (q | ⟨o,q⟩) | q
 ·exact .inl (.inl (z _ _ (fun e=>by subst e;rw [q] at i;cases i) (fun e=>by subst e;rw [q] at k1;cases k1) (fun e=>by subst e;rw [q] at r1;cases r1) (fun e=>by subst e;rw [q] at d1;cases d1) q))
 ·exact .inl (.inr ⟨o,z _ _ (fun e=>by subst e;rw [q] at i;cases i) (fun e=>by subst e;rw [q] at k1;cases k1) (fun e=>by subst e;rw [q] at r1;cases r1) (fun e=>by subst e;rw [q] at d1;cases d1) q⟩)
 ·exact .inr q
def A7 (K:PySem.W.Frag) (H:Hp) (v:V) (pl:List (List Pc)):Prop:=∃ p xs,v=.ref p/\bt K H p xs/\cn (rp K H) xs pl
inductive gA (K:PySem.W.Frag) (C:Addr) (vs:List V) (H:Hp) (Q:VK):Prop where
 | mk (x dx:Addr) (h0_:vs=[.ref x]) (h1_:H x=some (.ins C dx [])) (h2_:∀ (lk lr ld:Addr) (H':Hp),(∀ b o,b≠x->H b=some o->H' b=some o)->H lk=none->H lr=none->H ld=none->kg K C H' x lk lr ld ⟨0,[],[],[]⟩->Q .non H'):gA K C vs H Q
def lH (K:PySem.W.Frag) (C:Addr):Sp:=fun vs H Q _=>gA K C vs H Q
inductive h8 (K:PySem.W.Frag) (C:Addr) (vs:List V) (H:Hp) (Q:VK):Prop where
 | mk (a lk lr ld:Addr) (s:dW) (h0_:vs=[.ref a]) (h1_:kg K C H a lk lr ld s) (h2_:Q (.int s.tn) H):h8 K C vs H Q
def mV (K:PySem.W.Frag) (C:Addr):Sp:=fun vs H Q _=>h8 K C vs H Q
inductive fZ (K:PySem.W.Frag) (C:Addr) (vs:List V) (H:Hp) (Q:VK):Prop where
 | mk (a lk lr ld:Addr) (s:dW) (h0_:vs=[.ref a]) (h1_:kg K C H a lk lr ld s) (h2_:∀ v H',aB H H'->eD K H' v s.kn->Q v H'):fZ K C vs H Q
def kq (K:PySem.W.Frag) (C:Addr):Sp:=fun vs H Q _=>fZ K C vs H Q
inductive gz (K:PySem.W.Frag) (C:Addr) (vs:List V) (H:Hp) (Q:VK):Prop where
 | mk (a lk lr ld:Addr) (s:dW) (h0_:vs=[.ref a]) (h1_:kg K C H a lk lr ld s) (h2_:∀ v H',aB H H'->AU K H' v s.rs->Q v H'):gz K C vs H Q
def lG (K:PySem.W.Frag) (C:Addr):Sp:=fun vs H Q _=>gz K C vs H Q
inductive gy (K:PySem.W.Frag) (C:Addr) (vs:List V) (H:Hp) (Q:VK):Prop where
 | mk (a lk lr ld:Addr) (s:dW) (h0_:vs=[.ref a]) (h1_:kg K C H a lk lr ld s) (h2_:∀ v H',aB H H'->A7 K H' v s.dn->Q v H'):gy K C vs H Q
def xP (K:PySem.W.Frag) (C:Addr):Sp:=fun vs H Q _=>gy K C vs H Q
def mD (s:dW) (dv du:PyData):Bool:=m6 (.tuple [.int s.tn,dv,du]) && decide (s.kn.length < 20)
def fg (s:dW) (l:Nat) (r:R):dW:=⟨s.tn,s.kn++[(s.tn,l,r)],s.rs++[r],s.dn⟩
inductive gC (K:PySem.W.Frag) (C:Addr) (vs:List V) (H:Hp) (Q:VK):Prop where
 | mk (a lk lr ld:Addr) (s:dW) (v u:V) (dv du:PyData) (h0_:vs=[.ref a,v,u]) (h1_:kg K C H a lk lr ld s) (h2_:s.kn.length≤20) (h3_:s.rs.length≤20) (h4_:bw K H v dv) (h5_:bw K H u du) (h6_:mD s dv du=true) (h7_:(∀ (l:Nat) (r:R) (H':Hp),dv=.int (l:Nat)->du=dR r->GK a lk lr ld H H'->kg K C H' a lk lr ld (fg s l r)->Q (.int s.kn.length) H')):gC K C vs H Q
def lJ (K:PySem.W.Frag) (C:Addr):Sp:=fun vs H Q _=>gC K C vs H Q
theorem uO {t:Nat} {dv du:PyData} (h:m6 (.tuple [.int (t:Nat),dv,du])=true):∃ (l:Nat) (r:R),dv=.int (l:Nat)/\du=dR r/\t≤l/\l < 24/\0 < r.1/\iC r:=by
 have h':(lY 24 (.int (t:Nat)) && (lY 24 dv && (Kz (.int (t:Nat)) dv && dA du)))=true:=h
 rw [Bool.and_eq_true,Bool.and_eq_true,Bool.and_eq_true] at h'
 obtain⟨_,h2,h3,h4⟩:=h'
 obtain⟨i,rfl,i0,i1⟩:=lX h2
 obtain⟨l,rfl⟩:=Int.eq_ofNat_of_zero_le i0
 have h3':=of_decide_eq_true (show decide (((t:Nat):Int)≤(l:Nat))=true from h3)
 unfold dA at h4
 split at h4
 ·rename_i x y
  rw [Bool.and_eq_true,Bool.and_eq_true,decide_eq_true_iff,decide_eq_true_iff,decide_eq_true_iff] at h4
  exact⟨l,(x,y),rfl,rfl,by omega,by omega,h4.2,by show (0:Int) < y;omega,h4.1.2⟩
 ·cases h4
def aF (rs:List R):List Nat:=(List.range rs.length).filter fun i=>decide (rs.getD i (0,1)≠(0,1))
def bc (kn:List Wk) (rs:List R) (t:Nat):List Wk:=(aF rs).map fun i=>(t,(kn.getD i bC).2.1,rs.getD i (0,1))
inductive fq (K:PySem.W.Frag) (vs:List V) (H:Hp) (Q:VK):Prop where
 | mk (a b:Addr) (xs ys:List V) (kn:List Wk) (rs:List R) (t:Nat) (h0_:vs=[.ref a,.ref b,.int (t:Nat)]) (h1_:GF K H a xs) (h2_:cn (AS K H) xs kn) (h3_:aU K H b ys) (h4_:cn (RV K H) ys rs) (h5_:rs.length=kn.length) (h6_:rs.length≤20) (h7_:∀ (p l:Addr) (u:V) (H':Hp),aB H H'->bt K H' p [u,.ref l]->eD K H' u (bc kn rs t)->H' l=some (.lst (ba (aF rs)))->Q (.ref p) H'):fq K vs H Q
def jO (K:PySem.W.Frag):Sp:=fun vs H Q _=>fq K vs H Q
def bY (ns:List Nat) (q:List Pc):List Pc:=q.map fun c=>(ns.getD c.1 0,c.2)
inductive gZ (K:PySem.W.Frag) (vs:List V) (H:Hp) (Q:VK):Prop where
 | mk (u:V) (l:Addr) (q:List Pc) (ns:List Nat) (h0_:vs=[u,.ref l]) (h1_:rp K H u q) (h2_:aU K H l (ba ns)) (h3_:(∀ c∈q,c.1 < ns.length)) (h4_:q.length≤64) (h5_:∀ (v:V) (H':Hp),aB H H'->rp K H' v (bY ns q)->Q v H'):gZ K vs H Q
def mT (K:PySem.W.Frag):Sp:=fun vs H Q _=>gZ K vs H Q
theorem r8 {α:Type} {f:α->Rat}:∀ {l:List α},(∀ x∈l,0≤f x)->∀ {x:α},x∈l->f x≤sQ f l
 | y :: l,h,x,hx=>by
  show f x≤f y+sQ f l
  have h0:=h y List.mem_cons_self
  have hl:=lP (f:=f) (l:=l) fun z hz=>h z (List.mem_cons_of_mem _ hz)
  rcases List.mem_cons.mp hx with rfl | z
  ·grind
  ·have:=r8 (fun z hz=>h z (List.mem_cons_of_mem _ hz)) z
   grind
theorem o9 {pl:List (List Pc)} {t k:Nat} (hk:k < (pl.getD t []).length):cF pl t k=(pl.getD t [])[k]:=av _ (List.getElem?_eq_getElem hk)
theorem uY.mem {ws:List Wk} {pl:List (List Pc)} (pr:uY ws pl) {t:Nat} (ht:t < 24) {c:Pc} (hc:c∈pl.getD t []):c.1 < ws.length/\eM c.2/\0 < val c.2/\gm (ws.getD c.1 bC) t=true:=by
 obtain⟨k,hk,e⟩:=List.mem_iff_getElem.mp hc
 have:=pr.pc t k ht hk
 rw [o9 hk,e] at this
 exact this
theorem uY.nodup {ws:List Wk} {pl:List (List Pc)} (pr:uY ws pl) {t:Nat} (ht:t < 24):((pl.getD t []).map (·.1)).Nodup:=by
 unfold List.Nodup
 rw [List.pairwise_map,List.pairwise_iff_getElem]
 intro i j hi hj hij
 have:=pr.nd t i j ht hij hj
 rw [o9 hi,o9 hj] at this
 exact this
def mS (pl:List (List Pc)) (i u:Nat):Rat:=sQ (fun c:Pc=>bD (decide (c.1=i)) (val c.2)) (pl.getD u [])
theorem uY.sum {ws:List Wk} {pl:List (List Pc)} (pr:uY ws pl) (i:Nat):∀ t,t≤24->0 < (A4 pl i t).2/\val (A4 pl i t)=sQ (mS pl i) (List.range t)
 | 0,_=>⟨by show (0:Int) < 1;decide,by show val (0,1)=0;exact (dX (r:=(0,1)) (by decide)).mpr rfl⟩
 | t+1,h=>by
  obtain⟨p,e⟩:=uY.sum pr i t (by omega)
  obtain⟨p2,e2⟩:=pS (pl:=pl) (t:=t) (i:=i) p (pl.getD t []).length fun j hj=>(pr.pc t j (by omega) hj).2.1.bq.pos
  refine⟨p2,?_⟩
  rw [List.range_succ,dI]
  show val (uJ pl t i (A4 pl i t) (pl.getD t []).length)=_+(mS pl i t+0)
  rw [e2,e]
  unfold mS
  rw [gc (0,(0,1)) (pl.getD t [])]
  unfold cF
  grind
theorem uY.pt_nn {ws:List Wk} {pl:List (List Pc)} (pr:uY ws pl) {i u:Nat} (hu:u < 24):0≤mS pl i u:=lP fun c hc=>dM _ (Rat.le_of_lt (pr.mem hu hc).2.2.1)
theorem uY.most {ws:List Wk} {pl:List (List Pc)} (pr:uY ws pl) {t:Nat} (ht:t < 24) {c:Pc} (hc:c∈pl.getD t []):val c.2≤gE (ws.getD c.1 bC):=by
 have m:=pr.mem ht hc
 have e:=(pr.sum c.1 24 (Nat.le_refl _)).2
 rw [pr.fin c.1 m.1] at e
 unfold gE
 rw [e]
 have h1:val c.2≤mS pl c.1 t:=by
  have:=r8 (f:=fun x:Pc=>bD (decide (x.1=c.1)) (val x.2)) (fun x hx=>dM _ (Rat.le_of_lt (pr.mem ht hx).2.2.1)) hc
  rw [decide_eq_true rfl,cm] at this
  exact this
 exact Rat.le_trans h1 (r8 (fun u hu=>pr.pt_nn (List.mem_range.mp hu)) (List.mem_range.mpr ht))
theorem uY.all {ws:List Wk} {pl:List (List Pc)} (pr:uY ws pl) (ok:∀ w∈ws,bF w) {t:Nat} (ht:t < 24) {i:Nat} (hi:i < ws.length) (h1:(ws.getD i bC).1=t) (h2:(ws.getD i bC).2.1=t):∃ c∈pl.getD t [],c.1=i/\c.2=(ws.getD i bC).2.2:=by
 have wo:=ok _ (List.getElem_mem hi)
 have ew:ws.getD i bC=ws[i]:=av bC (List.getElem?_eq_getElem hi)
 have e:=(pr.sum i 24 (Nat.le_refl _)).2
 rw [pr.fin i hi] at e
 have z:∀ u∈List.range 24,mS pl i u=if u=t then mS pl i t else 0:=fun u hu=>by
  by_cases c:u=t
  ·rw [if_pos c,c]
  ·rw [if_neg c]
   have:∀ x∈pl.getD u [],bD (decide (x.1=i)) (val x.2)=0:=fun x hx=>by
    have m:=pr.mem (List.mem_range.mp hu) hx
    by_cases d:x.1=i
    ·exfalso
     have w:=m.2.2.2
     rw [d] at w
     unfold gm at w
     rw [Bool.and_eq_true,decide_eq_true_iff,decide_eq_true_iff] at w
     omega
    ·rw [decide_eq_false d,bJ]
   unfold mS
   rw [aE (g:=fun _=>(0:Rat)) this]
   have:=c9 (0:Rat) (f:=fun _:Pc=>(0:Rat)) (pl.getD u [])
   grind
 rw [aE z,yQ ht] at e
 have pa:0 < val (ws.getD i bC).2.2:=by rw [ew];exact AN wo
 rcases um (q:=pl.getD t []) (i:=i) (f:=fun p=>val p.2) (pr.nodup ht) with y | ⟨c,hc,ei,y⟩
 ·exfalso
  unfold mS at e
  rw [y] at e
  rw [e] at pa
  exact absurd pa (by decide)
 ·refine⟨c,hc,ei,?_⟩
  unfold mS at e
  rw [y] at e
  exact eN (pr.mem ht hc).2.1.red (by rw [ew];exact⟨by have:=wo.am.bot;omega,wo.am.wf.cop⟩) e.symm
def BD (D:Nat) (r:R):Prop:=iC r/\r.2∣(D:Int)
theorem BD.bq {D:Nat} {r:R} (h:BD D r):Bq D r.1.natAbs r:=⟨h.1.pos,h.1.cop,h.2,Nat.le_mul_of_pos_right _ (by have:=h.1.pos;omega)⟩
theorem n6 {D N:Nat} {r:R} (h:Bq D N r):BD D r:=⟨h.red,h.dvd⟩
theorem BD.minus {D:Nat} {x y:R} (hD:0 < D) (a:BD D x) (b:BD D y):BD D (bu x y):=n6 (Bq.minus hD a.bq b.bq)
theorem BD.les {D:Nat} {x y:R} (a:BD D x) (b:BD D y):BD D (d6 x y):=by
 unfold d6
 split
 ·exact b
 ·exact a
theorem BD.zero (D:Nat):BD D (0,1):=⟨⟨by decide,by decide⟩,⟨(D:Int),by show (D:Int)=1 * D;omega⟩⟩
theorem BD.mono {D D':Nat} {r:R} (h:BD D r) (d:D∣D'):BD D' r:=⟨h.1,Int.dvd_trans h.2 (Int.natCast_dvd_natCast.mpr d)⟩
structure DB (D:Nat) (st:tQ):Prop where
 lf:∀ r∈st.1,BD D r
 rm:BD D st.2.1
 pc:∀ p∈st.2.2,BD D p.2
theorem kM {D:Nat} {l:List R} (h:∀ r∈l,BD D r) (i:Nat):BD D (l.getD i (0,1)):=by
 rw [List.getD_eq_getElem?_getD]
 cases e:l[i]? with
 | none=>exact BD.zero D
 | some r=>exact h r (List.mem_of_getElem? e)
theorem DB.step {D:Nat} {ws:List Wk} {t i:Nat} {st:tQ} (hD:0 < D) (h:DB D st):DB D (bS ws t st i):=by
 unfold bS
 split
 ·have a:=kM h.lf i
  have la:=a.les h.rm
  refine⟨fun r hr=>?_,h.rm.minus hD la,fun p hp=>?_⟩
  ·rcases List.mem_or_eq_of_mem_set hr with z | z
   ·exact h.lf r z
   ·rw [z];exact a.minus hD la
  ·rcases List.mem_append.mp hp with z | z
   ·exact h.pc p z
   ·rw [List.mem_singleton.mp z];exact la
 ·exact h
theorem DB.fold {D:Nat} {ws:List Wk} {t:Nat} (hD:0 < D):∀ {ord:List Nat} {st:tQ},DB D st->DB D (ord.foldl (bS ws t) st)
 | [],st,h=>h
 | i :: ord,st,h=>(h.step hD).fold hD (ord:=ord)
theorem ux {D:Nat} {ws:List Wk} {ord:List Nat} {ss:List R} (hD:0 < D) (hw:∀ w∈ws,BD D w.2.2) (hs:∀ r∈ss,BD D r):∀ t,(∀ r∈(bb ws ord ss t).1,BD D r)/\∀ q∈(bb ws ord ss t).2,∀ x∈q,BD D x.2
 | 0=>⟨fun r hr=>by obtain⟨w,hw',rfl⟩:=List.mem_map.mp hr;exact hw w hw',fun q hq=>by cases hq⟩
 | t+1=>by
  obtain⟨h1,h2⟩:=ux (ord:=ord) hD hw hs t
  have d:=DB.fold (ws:=ws) (t:=t) (ord:=ord) (st:=((bb ws ord ss t).1,ss.getD t (0,1),[])) hD ⟨h1,kM hs t,fun p hp=>by cases hp⟩
  refine⟨d.lf,fun q hq=>?_⟩
  rcases List.mem_append.mp (show q∈(bb ws ord ss t).2++[_] from hq) with z | z
  ·exact h2 q z
  ·rw [List.mem_singleton.mp z];exact d.pc
theorem IL:∀ m,m < 25->0 < m->m∣5354228880:=by decide
theorem Ec {d:Nat} {ws:List Wk} {y:Ly} (hd:0 < d) (hw:∀ w∈ws,Bq d 12 w.2.2) (lok:j5 ws.length y):BD (d * 5354228880) (c8 ws y):=by
 have am:∀ r∈gW ws y,Bq d 12 r:=fun r hr=>by
  obtain⟨i,hi,rfl⟩:=List.mem_map.mp hr
  have hl:=lok.num i hi
  rw [av bC (List.getElem?_eq_getElem hl)]
  exact hw _ (List.getElem_mem hl)
 have pos:=lok.pos
 have few:=lok.few
 have o:Bq y.1.length 1 ((1,(y.1.length:Int)):R):=⟨by show (0:Int) < _;omega,by simp,Int.dvd_refl _,by show (1:Int).natAbs≤1 * ((y.1.length:Int)).natAbs;omega⟩
 exact (n6 ((kC hd am).times o)).mono (Nat.mul_dvd_mul_left _ (IL _ (by omega) pos))
theorem xJ {d:Nat} {ws:List Wk} (hd:0 < d) (hw:∀ w∈ws,Bq d 12 w.2.2):∀ {lys:List Ly} {ss:List R},(∀ y∈lys,j5 ws.length y)->(∀ r∈ss,BD (d * 5354228880) r)->∀ r∈lys.foldl (fun ss y=>ix (c8 ws y) ss y.1) ss,BD (d * 5354228880) r
 | [],ss,_,h=>h
 | y :: lys,ss,hl,h=>by
  refine xJ (lys:=lys) hd hw (fun z hz=>hl z (List.mem_cons_of_mem _ hz)) ?_
  have sp:=Ec hd hw (hl y List.mem_cons_self)
  have go:∀ (ts:List Nat) (ss:List R),(∀ r∈ss,BD (d * 5354228880) r)->∀ r∈ix (c8 ws y) ss ts,BD (d * 5354228880) r:=by
   intro ts
   induction ts with
   | nil=>intro ss h;exact h
   | cons t ts ih=>
    intro ss h
    refine ih (ss.set t (c8 ws y)) fun r hr=>?_
    rcases List.mem_or_eq_of_mem_set hr with z | z
    ·exact h r z
    ·rw [z];exact sp
  exact go y.1 ss h
theorem CT {d:Nat} {ws:List Wk} {lys:List Ly} (hd:0 < d) (hw:∀ w∈ws,Bq d 12 w.2.2) (h:gY ws (List.range 24) lys):∀ q∈(c5 ws (aP ws lys)).2,∀ x∈q,BD (d * 5354228880) x.2:=by
 have ly:=l9 h (by rw [List.length_range];exact Nat.le_refl _) (fun t ht=>List.mem_range.mp ht)
 have sp:=xJ (ss:=List.replicate 24 (0,1)) hd hw ly fun r hr=>by rw [(List.mem_replicate.mp hr).2];exact BD.zero _
 exact (ux (ord:=aS ws ws.length) (ss:=aP ws lys) (Nat.mul_pos hd (by decide)) (fun w hw'=>(n6 (hw w hw')).mono (Nat.dvd_mul_right _ _)) sp 24).2
def DK (t:Nat):Nat:=84 * 5354228880 ^ t
theorem tS (t:Nat):0 < DK t:=Nat.mul_pos (by decide) (Nat.pow_pos (by decide))
theorem vd (t:Nat):DK (t+1)=DK t * 5354228880:=by unfold DK;rw [Nat.pow_succ,Nat.mul_assoc]
theorem AW {t:Nat} (h:t≤23):DK t∣(84 * 5354228880 ^ 23):=by
 rw [show (84 * 5354228880 ^ 23)=84 * 5354228880 ^ 23 by decide]
 exact Nat.mul_dvd_mul_left 84 (Nat.pow_dvd_pow _ h)
theorem ve {t:Nat} (h:t≤24):DK t∣(84 * 5354228880 ^ 24):=by
 rw [show (84 * 5354228880 ^ 24)=84 * 5354228880 ^ 24 by decide]
 exact Nat.mul_dvd_mul_left 84 (Nat.pow_dvd_pow _ h)
structure kO (s:dW):Prop where
 t24:s.tn≤24
 len:s.rs.length=s.kn.length
 few:s.kn.length≤20
 dl:s.dn.length=s.tn
 kn:∀ w∈s.kn,w.1 < 24/\w.2.1 < 24/\Bq 84 12 w.2.2/\0≤w.2.2.1
 am:∀ r∈s.rs,Bq (DK s.tn) 12 r/\0≤r.1
 due:∀ i,i < s.kn.length->s.rs.getD i (0,1)≠(0,1)->s.tn≤(s.kn.getD i bC).2.1
 pcs:∀ q∈s.dn,q.length≤20/\∀ c∈q,c.1 < 20/\eM c.2
theorem BK {r:R} (h:iC r) (nn:0≤r.1) (nz:r≠(0,1)):1≤r.1:=by
 by_cases z:r.1=0
 ·exfalso
  apply nz
  have g:=h.cop
  have p:=h.pos
  rw [z,Int.gcd_zero_left] at g
  exact Prod.ext z (by show r.2=1;omega)
 ·omega
theorem d5 {rs:List R} {i:Nat}:i∈aF rs↔i < rs.length/\rs.getD i (0,1)≠(0,1):=by
 unfold aF
 rw [List.mem_filter,List.mem_range,decide_eq_true_iff]
theorem Cs (rs:List R):(aF rs).Nodup:=List.Pairwise.filter _ List.nodup_range
theorem kA {kn:List Wk} {rs:List R} {t j:Nat} (hj:j < (aF rs).length):(bc kn rs t).getD j bC=(t,(kn.getD (aF rs)[j] bC).2.1,rs.getD (aF rs)[j] (0,1)):=av bC (by unfold bc;rw [List.getElem?_map,List.getElem?_eq_getElem hj];rfl)
theorem cX (kn:List Wk) (rs:List R) (t:Nat):(bc kn rs t).length=(aF rs).length:=List.length_map _
theorem gh (rs:List R):(aF rs).length≤rs.length:=by
 unfold aF
 exact Nat.le_trans (List.length_filter_le _ _) (by rw [List.length_range];exact Nat.le_refl _)
theorem cN {l:List R} {i:Nat} (hi:i < l.length):l.getD i (0,1)∈l:=by
 rw [av (0,1) (List.getElem?_eq_getElem hi)]
 exact List.getElem_mem hi
theorem h9 {s:dW} (o:kO s) (ht:s.tn < 24):∀ w∈bc s.kn s.rs s.tn,bF w/\w.1=s.tn/\Bq (DK s.tn) 12 w.2.2:=fun w hw=>by
 obtain⟨i,hi,rfl⟩:=List.mem_map.mp hw
 obtain⟨h1,h2⟩:=d5.mp hi
 have a:=o.am _ (cN h1)
 have l:=o.due i (by rw [← o.len];exact h1) h2
 have hk:i < s.kn.length:=by rw [← o.len];exact h1
 have k:=o.kn (s.kn.getD i bC) (by rw [av bC (List.getElem?_eq_getElem hk)];exact List.getElem_mem hk)
 have b:=a.1.pos
 have le:=a.1.le
 refine⟨⟨l,k.2.1,BK a.1.red a.2 h2,?_,by show 1≤(s.rs.getD i (0,1)).2;omega,Int.dvd_trans a.1.dvd (Int.natCast_dvd_natCast.mpr (AW (by omega))),(a.1.mono (AW (by omega)) (Nat.le_refl _)).wf (by decide) (by decide) (by decide)⟩,rfl,a.1⟩
 show (s.rs.getD i (0,1)).1≤12 * (s.rs.getD i (0,1)).2
 have:=a.2
 omega
def eX (rs:List R) (q:List Pc):List R:=q.foldl (fun l c=>l.set c.1 (bu (l.getD c.1 (0,1)) c.2)) rs
theorem kD:∀ (q:List Pc) (rs:List R),(eX rs q).length=rs.length
 | [],_=>rfl
 | c :: q,rs=>by
  show (eX (rs.set c.1 _) q).length=_
  rw [kD q,List.length_set]
theorem jf {i:Nat}:∀ (q:List Pc) (rs:List R),i∉q.map (·.1)->(eX rs q).getD i (0,1)=rs.getD i (0,1)
 | [],_,_=>rfl
 | c :: q,rs,h=>by
  rw [List.map_cons,List.mem_cons,not_or] at h
  show (eX (rs.set c.1 _) q).getD i (0,1)=_
  rw [jf q _ h.2,List.getD_eq_getElem?_getD,List.getElem?_set_ne (fun z=>h.1 z.symm),← List.getD_eq_getElem?_getD]
theorem rM {x:Pc}:∀ (q:List Pc) (rs:List R),(q.map (·.1)).Nodup->x∈q->x.1 < rs.length->(eX rs q).getD x.1 (0,1)=bu (rs.getD x.1 (0,1)) x.2
 | c :: q,rs,nd,hx,hl=>by
  rw [List.map_cons,List.nodup_cons] at nd
  show (eX (rs.set c.1 _) q).getD x.1 (0,1)=_
  rcases List.mem_cons.mp hx with rfl | z
  ·rw [jf q _ nd.1]
   exact av _ (by rw [List.getElem?_set_self hl])
  ·have ne:c.1≠x.1:=fun e=>nd.1 (by rw [e];exact List.mem_map.mpr ⟨x,z,rfl⟩)
   rw [rM q _ nd.2 z (by rw [List.length_set];exact hl)]
   congr 1
   rw [List.getD_eq_getElem?_getD,List.getElem?_set_ne ne,← List.getD_eq_getElem?_getD]
theorem EQ {ns:List Nat} {q:List Pc} (nn:ns.Nodup) (hl:∀ c∈q,c.1 < ns.length) (nd:(q.map (·.1)).Nodup):((bY ns q).map (·.1)).Nodup:=by
 unfold bY
 rw [List.map_map]
 unfold List.Nodup at nd ⊢
 rw [List.pairwise_map] at nd ⊢
 refine nd.imp_of_mem fun {a b} ha hb ne e=>ne ?_
 have e':ns.getD a.1 0=ns.getD b.1 0:=e
 rw [av 0 (List.getElem?_eq_getElem (hl a ha)),av 0 (List.getElem?_eq_getElem (hl b hb))] at e'
 exact (List.getElem_inj nn).mp e'
theorem D8 {D:Nat} {x c:R} (hD:0 < D) (hx:Bq D 12 x) (nx:0≤x.1) (hc:BD D c) (le:val c≤val x) (nc:0≤val c):Bq D 12 (bu x c)/\0≤(bu x c).1:=by
 have b:=BD.minus hD (n6 hx) hc
 have ev:val (bu x c)=val x - val c:=df hx.pos hc.1.pos
 have nn:0≤(bu x c).1:=(kQ b.1.pos).mp (by rw [ev];grind)
 refine⟨⟨b.1.pos,b.1.cop,b.2,(pJ b.1.pos nn).mpr ?_⟩,nn⟩
 have:=(pJ hx.pos nx).mp hx.le
 rw [ev]
 grind
theorem sub_self {x:R} (h:iC x):bu x x=(0,1):=by
 have b:=BD.minus (D:=x.2.natAbs) (by have:=h.pos;omega) (x:=x) (y:=x) ⟨h,by have:=h.pos;exact⟨1,by omega⟩⟩ ⟨h,by have:=h.pos;exact⟨1,by omega⟩⟩
 refine eN b.1 ⟨by decide,by decide⟩ ?_
 rw [df h.pos h.pos,(dX (r:=(0,1)) (by decide)).mpr rfl]
 grind
def Gq (s:dW) (q:List Pc):dW:=⟨s.tn+1,s.kn,eX s.rs q,s.dn++[q]⟩
structure JB (s:dW) (q0:List Pc):Prop where
 ok:kO (Gq s (bY (aF s.rs) q0))
 lt:∀ c∈q0,c.1 < (aF s.rs).length
 nd:((bY (aF s.rs) q0).map (·.1)).Nodup
 pc:∀ x∈bY (aF s.rs) q0,x.1 < s.rs.length/\eM x.2
 few:q0.length≤20
theorem Gp {s:dW} (o:kO s) (ht:s.tn < 24) {lys:List Ly} (h:gY (bc s.kn s.rs s.tn) (List.range 24) lys):JB s ((c5 (bc s.kn s.rs s.tn) (aP (bc s.kn s.rs s.tn) lys)).2.getD s.tn []):=by
 have wok:=h9 o ht
 have ok:∀ w∈bc s.kn s.rs s.tn,bF w:=fun w hw=>(wok w hw).1
 have wl:=cX s.kn s.rs s.tn
 have w20:(bc s.kn s.rs s.tn).length≤20:=by
  have:=gh s.rs
  have:=o.len
  have:=o.few
  omega
 have pr:=gj ok w20 h
 have bd:=CT (tS s.tn) (fun w hw=>(wok w hw).2.2) h
 generalize (c5 (bc s.kn s.rs s.tn) (aP (bc s.kn s.rs s.tn) lys)).2=pl at pr bd ⊢
 have bq:∀ c∈pl.getD s.tn [],BD (DK (s.tn+1)) c.2:=fun c hc=>by
  rw [vd]
  refine bd (pl.getD s.tn []) ?_ c hc
  rw [av [] (List.getElem?_eq_getElem (show s.tn < pl.length by rw [pr.len];exact ht))]
  exact List.getElem_mem _
 have M:=fun (c:Pc) hc=>pr.mem (c:=c) ht hc
 have lt:∀ c∈pl.getD s.tn [],c.1 < (aF s.rs).length:=fun c hc=>by rw [← wl];exact (M c hc).1
 have mo:=fun (c:Pc) hc=>pr.most (c:=c) ht hc
 have al:=fun (i:Nat) hi h1 h2=>pr.all (i:=i) ok ht hi h1 h2
 have nq:=pr.nodup ht
 have few:=pr.few s.tn
 generalize pl.getD s.tn []=q0 at bq M lt mo al nq few ⊢
 have nr:=EQ (Cs s.rs) lt nq
 have num:∀ c∈q0,(aF s.rs).getD c.1 0∈aF s.rs:=fun c hc=>by
  rw [av 0 (List.getElem?_eq_getElem (lt c hc))]
  exact List.getElem_mem _
 have am:∀ c∈q0,val c.2≤val (s.rs.getD ((aF s.rs).getD c.1 0) (0,1)):=fun c hc=>by
  have:=mo c hc
  unfold gE at this
  rw [kA (lt c hc)] at this
  rw [av 0 (List.getElem?_eq_getElem (lt c hc))]
  exact this
 refine⟨⟨by show s.tn+1≤24;omega,(kD _ _).trans o.len,o.few,by show (s.dn++[_]).length=_;rw [List.length_append,o.dl];rfl,o.kn,?_,?_,?_⟩,lt,nr,(fun x hx=>by
  obtain⟨c,hc,rfl⟩:=List.mem_map.mp hx
  exact⟨(d5.mp (num c hc)).1,(M c hc).2.1⟩),few⟩
 ·intro r hr
  have hr':r∈eX s.rs (bY (aF s.rs) q0):=hr
  obtain⟨i,hi,rfl⟩:=List.mem_iff_getElem.mp hr'
  have hi':i < s.rs.length:=by rw [← kD (bY (aF s.rs) q0)];exact hi
  have eg:(eX s.rs (bY (aF s.rs) q0)).getD i (0,1)=(eX s.rs (bY (aF s.rs) q0))[i]:=av _ (List.getElem?_eq_getElem hi)
  show Bq (DK (s.tn+1)) 12 _/\_
  rw [← eg]
  have a:=o.am _ (cN hi')
  have a1:=a.1.mono (show DK s.tn∣DK (s.tn+1) by rw [vd];exact Nat.dvd_mul_right _ _) (Nat.le_refl _)
  by_cases m:i∈(bY (aF s.rs) q0).map (·.1)
  ·obtain⟨x,hx,rfl⟩:=List.mem_map.mp m
   rw [rM _ _ nr hx hi']
   obtain⟨c,hc,rfl⟩:=List.mem_map.mp hx
   exact D8 (tS _) a1 a.2 (bq c hc) (am c hc) (Rat.le_of_lt (M c hc).2.2.1)
  ·rw [jf _ _ m]
   exact⟨a1,a.2⟩
 ·intro i hi nz
  have hi':i < s.rs.length:=by rw [o.len];exact hi
  have nz':(eX s.rs (bY (aF s.rs) q0)).getD i (0,1)≠(0,1):=nz
  show s.tn+1≤(s.kn.getD i bC).2.1
  have nz0:s.rs.getD i (0,1)≠(0,1):=fun e=>by
   have m:i∉(bY (aF s.rs) q0).map (·.1):=fun m=>by
    obtain⟨x,hx,ei⟩:=List.mem_map.mp m
    obtain⟨c,hc,rfl⟩:=List.mem_map.mp hx
    exact (d5.mp (num c hc)).2 (by rw [show (aF s.rs).getD c.1 0=i from ei];exact e)
   rw [jf _ _ m] at nz'
   exact nz' e
  have d:=o.due i hi nz0
  by_cases c0:(s.kn.getD i bC).2.1=s.tn
  ·exfalso
   obtain⟨j,hj,ej⟩:=List.mem_iff_getElem.mp (d5.mpr ⟨hi',nz0⟩)
   have wj:=kA (kn:=s.kn) (t:=s.tn) hj
   obtain⟨c,hc,e1,e2⟩:=al j (by rw [wl];exact hj) (by rw [wj]) (by rw [wj,ej];exact c0)
   rw [wj] at e2
   have ei:(aF s.rs).getD c.1 0=i:=by rw [e1,av 0 (List.getElem?_eq_getElem hj)];exact ej
   have z:=rM (x:=((aF s.rs).getD c.1 0,c.2)) (bY (aF s.rs) q0) s.rs nr (List.mem_map.mpr ⟨c,hc,rfl⟩) (by show (aF s.rs).getD c.1 0 < _;rw [ei];exact hi')
   have z':(eX s.rs (bY (aF s.rs) q0)).getD ((aF s.rs).getD c.1 0) (0,1)=bu (s.rs.getD ((aF s.rs).getD c.1 0) (0,1)) c.2:=z
   rw [ei,e2,ej] at z'
   rw [z'] at nz'
   exact nz' (sub_self (o.am _ (cN hi')).1.red)
  ·omega
 ·intro q hq
  rcases List.mem_append.mp (show q∈s.dn++[bY (aF s.rs) q0] from hq) with z | z
  ·exact o.pcs q z
  ·rw [List.mem_singleton.mp z]
   refine⟨by unfold bY;rw [List.length_map];exact few,fun x hx=>?_⟩
   obtain⟨c,hc,rfl⟩:=List.mem_map.mp hx
   have:=(d5.mp (num c hc)).1
   have:=o.len
   have:=o.few
   exact⟨by show (aF s.rs).getD c.1 0 < 20;omega,(M c hc).2.1⟩
theorem IY {s:dW} (o:kO s) (ht:s.tn < 24) {lys:List Ly} (h:gY (bc s.kn s.rs s.tn) (List.range 24) lys):∀ x∈bY (aF s.rs) ((c5 (bc s.kn s.rs s.tn) (aP (bc s.kn s.rs s.tn) lys)).2.getD s.tn []),0 < val x.2:=fun x hx=>by
 obtain⟨c,hc,rfl⟩:=List.mem_map.mp hx
 have l1:=gh s.rs
 have l2:=o.len
 have l3:=o.few
 exact ((gj (fun w hw=>(h9 o ht w hw).1) (by rw [cX];omega) h).mem ht hc).2.2.1
structure Hc (s:dW) (q0:List Pc):Prop extends JB s q0 where
 ps:∀ x∈bY (aF s.rs) q0,0 < val x.2
 ex:∃ lys,gY (bc s.kn s.rs s.tn) (List.range 24) lys/\q0=(c5 (bc s.kn s.rs s.tn) (aP (bc s.kn s.rs s.tn) lys)).2.getD s.tn []
theorem IZ {s:dW} (o:kO s) (ht:s.tn < 24) {lys:List Ly} (h:gY (bc s.kn s.rs s.tn) (List.range 24) lys):Hc s ((c5 (bc s.kn s.rs s.tn) (aP (bc s.kn s.rs s.tn) lys)).2.getD s.tn []):=⟨Gp o ht h,IY o ht h,lys,h,rfl⟩
structure wK (ws:List Wk):Prop where
 few:ws.length≤20
 wk:∀ w∈ws,w.1≤w.2.1/\w.2.1 < 24/\Bq 84 12 w.2.2/\0 < w.2.2.1
def Kh (dn:List (List Pc)) (i:Nat):Rat:=sQ (fun q:List Pc=>sQ (fun c:Pc=>bD (decide (c.1=i)) (val c.2)) q) dn
structure KI (ws:List Wk) (s:dW) (ns:List Nat):Prop where
 ok:kO s
 len:ns.length=s.kn.length
 at_:∀ i,i < ns.length->s.kn.getD i bC=ws.getD (ns.getD i 0) bC
 lt:∀ j∈ns,j < ws.length/\(ws.getD j bC).1≤s.tn
 nd:ns.Nodup
 dn:∀ (u:Nat) (q:List Pc),s.dn[u]?=some q->(q.map (·.1)).Nodup/\∀ c∈q,c.1 < s.kn.length/\(s.kn.getD c.1 bC).1≤u/\u≤(s.kn.getD c.1 bC).2.1/\eM c.2/\0 < val c.2
 sum:∀ i,i < s.kn.length->val (s.kn.getD i bC).2.2=val (s.rs.getD i (0,1))+Kh s.dn i
def J0 (ws:List Wk) (t i:Nat):List Nat:=(List.range i).filter fun j=>decide ((ws.getD j bC).1=t)
def JZ (ws:List Wk) (t:Nat):List Nat:=(List.range t).flatMap fun u=>J0 ws u ws.length
def KU (ws:List Wk) (s:dW) (l:List Nat):dW:=l.foldl (fun s j=>fg s (ws.getD j bC).2.1 (ws.getD j bC).2.2) s
inductive G6 (ws:List Wk):Nat->dW->Prop where
 | zero:G6 ws 0 ⟨0,[],[],[]⟩
 | next {t:Nat} {s:dW} {q0:List Pc} (r:G6 ws t s) (G:Hc (KU ws s (J0 ws t ws.length)) q0):G6 ws (t+1) (Gq (KU ws s (J0 ws t ws.length)) (bY (aF (KU ws s (J0 ws t ws.length)).rs) q0))
def Ix (ps:List Pc) (j:Nat):List R:=(ps.filter fun c=>decide (c.1=j)).map (·.2)
structure Nv (ws:List Wk) (pl:List (List Pc)):Prop where
 len:pl.length=24
 few:∀ q∈pl,q.length≤20
 row:∀ (u:Nat) (q:List Pc),pl[u]?=some q->(q.map (·.1)).Nodup/\∀ c∈q,c.1 < ws.length/\(ws.getD c.1 bC).1≤u/\u≤(ws.getD c.1 bC).2.1/\eM c.2/\0 < val c.2
 fin:∀ j,j < ws.length->eW (Ix pl.flatten j)=(ws.getD j bC).2.2
def sr (f:Nat->Rat):Nat->Rat
 | 0=>0
 | n+1=>sr f n+f n
theorem aM {f g:Nat->Rat}:∀ {n:Nat},(∀ i,i < n->f i=g i)->sr f n=sr g n
 | 0,_=>rfl
 | n+1,h=>by
  show sr f n+f n=sr g n+g n
  rw [aM fun i hi=>h i (by omega),h n (by omega)]
theorem qj {f g:Nat->Rat}:∀ {n:Nat},(∀ i,i < n->f i≤g i)->sr f n≤sr g n
 | 0,_=>Rat.le_refl
 | n+1,h=>by
  show sr f n+f n≤sr g n+g n
  have a:=qj (f:=f) (g:=g) (n:=n) fun i hi=>h i (by omega)
  have b:=h n (by omega)
  grind
theorem oA (f g:Nat->Rat):∀ n:Nat,sr (fun i=>f i+g i) n=sr f n+sr g n
 | 0=>by show (0:Rat)=0+0;grind
 | n+1=>by
  show sr _ n+(f n+g n)=sr f n+f n+(sr g n+g n)
  rw [oA f g n]
  grind
theorem rN (f g:Nat->Rat):∀ n:Nat,sr (fun i=>f i - g i) n=sr f n - sr g n
 | 0=>by show (0:Rat)=0 - 0;grind
 | n+1=>by
  show sr _ n+(f n - g n)=sr f n+f n - (sr g n+g n)
  rw [rN f g n]
  grind
theorem xH (c:Rat) (f:Nat->Rat):∀ n:Nat,sr (fun i=>c * f i) n=c * sr f n
 | 0=>by show (0:Rat)=c * 0;grind
 | n+1=>by
  show sr _ n+c * f n=c * (sr f n+f n)
  rw [xH c f n]
  grind
theorem cI:∀ n:Nat,sr (fun _=>0) n=0
 | 0=>rfl
 | n+1=>by
  show sr _ n+0=0
  rw [cI n]
  grind
theorem Dt {f:Nat->Rat} {n:Nat} (h:∀ i,i < n->0≤f i):0≤sr f n:=by
 have:=qj (f:=fun _=>0) (g:=f) (n:=n) h
 rw [cI] at this
 exact this
theorem oz (f:Nat->Nat->Rat) (m:Nat):∀ n:Nat,sr (fun i=>sr (fun t=>f i t) m) n=sr (fun t=>sr (fun i=>f i t) n) m
 | 0=>(cI m).symm
 | n+1=>by
  show sr _ n+sr (fun t=>f n t) m=sr (fun t=>sr (fun i=>f i t) n+f n t) m
  rw [oz f m n,oA]
def mB (n:Nat) (d:Nat->Nat) (a:Nat->Rat) (u:Nat):Rat:=sr (fun i=>if d i≤u then a i else 0) n
structure Oa (t:Nat) (D s:Nat->Rat):Prop where
 nn:∀ u,0≤s u
 bf:∀ u,u < t->s u=0
 z:∀ u,24≤u->s u=0
 dec:∀ u,t≤u->s (u+1)≤s u
 ge:∀ u,u < 24->D u≤sr s (u+1)
 eq:∀ u,t≤u->u < 24->s (u+1) < s u->D u=sr s (u+1)
theorem Oa.le {t:Nat} {D s:Nat->Rat} (O:Oa t D s) {u v:Nat} (h:t≤u) (h':u≤v):s v≤s u:=by
 induction v with
 | zero=>
  obtain rfl:u=0:=by omega
  exact Rat.le_refl
 | succ v ih=>
  by_cases c:u=v+1
  ·subst c;exact Rat.le_refl
  ·have:=ih (by omega)
   have:=O.dec v (by omega)
   grind
section
variable {n t k:Nat} {d:Nat->Nat} {a b:Nat->Rat} {D s:Nat->Rat}
def LX (k n:Nat) (d:Nat->Nat) (s a b:Nat->Rat):Rat:=(k:Rat) * sr (fun i=>s (d i) ^ (k - 1) * (a i - (k:Rat) * b i)) n
end
theorem qU (E:Nat->Rat):∀ n:Nat,∃ u,u≤n/\(∀ x,x≤n->E x≤E u)/\∀ x,u < x->x≤n->E x < E u
 | 0=>⟨0,Nat.le_refl _,(fun x hx=>by rw [show x=0 by omega];exact Rat.le_refl),fun x h h'=>by omega⟩
 | n+1=>by
  obtain⟨u,h1,h2,h3⟩:=qU E n
  by_cases c:E u≤E (n+1)
  ·refine⟨n+1,Nat.le_refl _,fun x hx=>?_,fun x h h'=>by omega⟩
   by_cases q:x=n+1
   ·subst q;exact Rat.le_refl
   ·have:=h2 x (by omega)
    grind
  ·have c:=Rat.not_le.mp c
   refine⟨u,by omega,fun x hx=>?_,fun x h h'=>?_⟩
   ·by_cases q:x=n+1
    ·subst q;exact Rat.le_of_lt c
    ·exact h2 x (by omega)
   ·by_cases q:x=n+1
    ·subst q;exact c
    ·exact h3 x h (by omega)
section
variable {t:Nat} {D s s':Nat->Rat}
theorem Oa.sum_le (O:Oa t D s) (O':Oa t D s') (ht:t < 24):∀ u,u < 24->sr s (u+1)≤sr s' (u+1):=by
 obtain⟨u,hu,mx,lt⟩:=qU (fun u=>sr s (u+1) - sr s' (u+1)) 23
 have key:sr s (u+1) - sr s' (u+1)≤0:=by
  apply Classical.byContradiction
  intro no
  have pos:=Rat.not_le.mp no
  have tu:t≤u:=by
   apply Classical.byContradiction
   intro c
   have z1:sr s (u+1)=0:=by rw [aM (g:=fun _=>0) (fun i hi=>O.bf i (by omega)),cI]
   have z2:sr s' (u+1)=0:=by rw [aM (g:=fun _=>0) (fun i hi=>O'.bf i (by omega)),cI]
   rw [z1,z2] at pos
   grind
  have flat:¬ s (u+1) < s u:=fun f=>by
   have e:=O.eq u tu (by omega) f
   have g:=O'.ge u (by omega)
   grind
  have fl:s (u+1)=s u:=Rat.le_antisymm (O.dec u tu) (Rat.not_lt.mp flat)
  have su:s' u≤s u:=by
   by_cases c:u=0
   ·subst c
    have e1:sr s (0+1)=0+s 0:=rfl
    have e2:sr s' (0+1)=0+s' 0:=rfl
    rw [e1,e2] at pos
    grind
   ·have m:=mx (u - 1) (by omega)
    have e0:u - 1+1=u:=by omega
    have m':sr s (u - 1+1) - sr s' (u - 1+1)≤sr s (u+1) - sr s' (u+1):=m
    rw [e0] at m'
    have e1:sr s (u+1)=sr s u+s u:=rfl
    have e2:sr s' (u+1)=sr s' u+s' u:=rfl
    rw [e1,e2] at m'
    grind
  by_cases c:u=23
  ·subst c
   have z:s (23+1)=0:=O.z 24 (by omega)
   have z':s' (23+1)=0:=O'.z 24 (by omega)
   rw [z] at fl
   have n':=O'.nn 23
   have tot:sr s 24≤sr s' 24:=by
    have all:∀ m,m≤24->(∀ v,24 - m≤v->v < 24->t≤v->s v=0)∨∃ v,t≤v/\v < 24/\s (v+1) < s v/\∀ x,v < x->x < 24->s x=0:=fun m=>by
     induction m with
     | zero=>intro _;exact .inl fun v h1 h2=>by omega
     | succ m ih=>
      intro hm
      rcases ih (by omega) with h | h
      ·by_cases q:t≤24 - (m+1)
       ·by_cases p:s (24 - (m+1))=0
        ·refine .inl fun v h1 h2 h3=>?_
         by_cases r:v=24 - (m+1)
         ·rw [r];exact p
         ·exact h v (by omega) h2 h3
        ·refine .inr ⟨24 - (m+1),q,by omega,?_,fun x h1 h2=>h x (by omega) h2 (by omega)⟩
         have nx:s (24 - (m+1)+1)=0:=by
          by_cases r:m=0
          ·subst r;exact O.z 24 (by omega)
          ·exact h _ (by omega) (by omega) (by omega)
         rw [nx]
         have:=O.nn (24 - (m+1))
         grind
       ·exact .inl fun v h1 h2 h3=>h v (by omega) h2 h3
      ·exact .inr h
    rcases all 24 (by omega) with h | ⟨v,v1,v2,v3,v4⟩
    ·have z0:sr s 24=0:=by
      rw [aM (g:=fun _=>0) (fun i hi=>by
       by_cases q:t≤i
       ·exact h i (by omega) hi q
       ·exact O.bf i (by omega)),cI]
     rw [z0]
     exact Dt fun i _=>O'.nn i
    ·have e:=O.eq v v1 v2 v3
     have g:=O'.ge v v2
     have ex:∀ m,v+1≤m->m≤24->sr s m=sr s (v+1)/\sr s' (v+1)≤sr s' m:=fun m=>by
      induction m with
      | zero=>intro h;omega
      | succ m ih=>
       intro h1 h2
       by_cases r:m=v
       ·subst r;exact⟨rfl,Rat.le_refl⟩
       ·obtain⟨a,b⟩:=ih (by omega) (by omega)
        have z0:=v4 m (by omega) (by omega)
        have nn:=O'.nn m
        have e1:sr s (m+1)=sr s m+s m:=rfl
        have e2:sr s' (m+1)=sr s' m+s' m:=rfl
        rw [e1,e2,z0,a]
        exact⟨by grind,by grind⟩
     obtain⟨a,b⟩:=ex 24 (by omega) (by omega)
     rw [a,← e]
     grind
   have tot':sr s (23+1)≤sr s' (23+1):=tot
   grind
  ·have l:=lt (u+1) (by omega) (by omega)
   have l':sr s (u+1+1) - sr s' (u+1+1) < sr s (u+1) - sr s' (u+1):=l
   have e1:sr s (u+1+1)=sr s (u+1)+s (u+1):=rfl
   have e2:sr s' (u+1+1)=sr s' (u+1)+s' (u+1):=rfl
   have d':=O'.dec u tu
   rw [e1,e2,fl] at l'
   grind
 intro x hx
 have:=mx x (by omega)
 have h':sr s (x+1) - sr s' (x+1)≤sr s (u+1) - sr s' (u+1):=this
 grind
theorem Oa.uniq (O:Oa t D s) (O':Oa t D s') (ht:t < 24):s=s':=by
 have a:=O.sum_le O' ht
 have b:=O'.sum_le O ht
 have e:∀ u,u < 24->sr s (u+1)=sr s' (u+1):=fun u hu=>Rat.le_antisymm (a u hu) (b u hu)
 funext u
 by_cases h:u < 24
 ·have e1:sr s (u+1)=sr s u+s u:=rfl
  have e2:sr s' (u+1)=sr s' u+s' u:=rfl
  have x:=e u h
  rw [e1,e2] at x
  by_cases c:u=0
  ·subst c
   have z1:sr s 0=0:=rfl
   have z2:sr s' 0=0:=rfl
   rw [z1,z2] at x
   grind
  ·have y:=e (u - 1) (by omega)
   rw [show u - 1+1=u by omega] at y
   rw [y] at x
   grind
 ·rw [O.z u (by omega),O'.z u (by omega)]
end
theorem nA (f:Nat->Rat):∀ n:Nat,sQ f (List.range n)=sr f n
 | 0=>rfl
 | n+1=>by
  rw [List.range_succ,dI,nA f n]
  show sr f n+(f n+0)=sr f n+f n
  grind
theorem D9 {c v:Nat} (cv:c≤v):∀ n:Nat,v≤n->sr (fun u=>if c≤u/\u < v then (1:Rat) else 0) n=((v - c:Nat):Rat):=fun n=>by
 have key:∀ n,sr (fun u=>if c≤u/\u < v then (1:Rat) else 0) n=((min n v - min n c:Nat):Rat):=fun n=>by
  induction n with
  | zero=>show (0:Rat)=((min 0 v - min 0 c:Nat):Rat);rw [show min 0 v - min 0 c=0 by omega];rfl
  | succ n ih=>
   show sr _ n+(if c≤n/\n < v then (1:Rat) else 0)=_
   rw [ih]
   by_cases q:c≤n/\n < v
   ·rw [if_pos q,show min (n+1) v - min (n+1) c=(min n v - min n c)+1 by omega,Rat.natCast_add]
    rfl
   ·rw [if_neg q,show min (n+1) v - min (n+1) c=min n v - min n c by omega]
    grind
 intro h
 rw [key n,show min n v - min n c=v - c by omega]
def dP (ws:List Wk) (c:Nat):Rat:=FM ws fun u=>decide (u < c)
section
variable {ws:List Wk} {t:Nat} {lys:List Ly}
theorem tP (ok:∀ w∈ws,bF w) (h1:∀ w∈ws,w.1=t) {A:Nat->Bool} {v:Nat} (tv:t≤v) (v24:v≤24) (hA:∀ u,t≤u->u < v->A u=true) (hv:v < 24->A v=false):FM ws A=dP ws v:=by
 unfold FM dP
 refine aE fun w hw=>?_
 have o:=ok w hw
 have e:=h1 w hw
 have ole:=o.le
 have olt:=o.lt
 congr 1
 rw [Bool.eq_iff_iff,ca,ca]
 constructor
 ·intro h u hu hi
  have hi':w.1≤u/\u≤w.2.1:=by
   unfold gm at hi
   rw [Bool.and_eq_true,decide_eq_true_iff,decide_eq_true_iff] at hi
   exact hi
  refine decide_eq_true ?_
  apply Classical.byContradiction
  intro z
  have q:=h v (by omega) (by unfold gm;rw [decide_eq_true (by omega),decide_eq_true (by omega)];rfl)
  rw [hv (by omega)] at q
  cases q
 ·intro h u hu hi
  have hi':w.1≤u/\u≤w.2.1:=by
   unfold gm at hi
   rw [Bool.and_eq_true,decide_eq_true_iff,decide_eq_true_iff] at hi
   exact hi
  exact hA u (by omega) (of_decide_eq_true (h u hu hi))
theorem GA {P:Nat->Bool} {c v:Nat} (cv:c≤v) (v24:v≤24) (h:∀ u,c≤u->u < v->P u=true):((v - c:Nat):Rat)≤jw P:=by
 unfold jw
 rw [nA,← D9 cv 24 v24]
 refine qj fun u _=>?_
 by_cases q:c≤u/\u < v
 ·rw [if_pos q,h u q.1 q.2];exact Rat.le_refl
 ·rw [if_neg q];exact dM _ zN
theorem CA (ok:∀ w∈ws,bF w) (h1:∀ w∈ws,w.1=t) (h:gY ws (List.range 24) lys) {x:Nat} (hx:x < 24) (p:0 < gJ ws lys x):∃ v,t≤x/\x < v/\v≤24/\(∀ c,t≤c->c≤v->gJ ws lys x * ((v - c:Nat):Rat)≤dP ws v - dP ws c)/\∀ y,t≤y->y < v->gJ ws lys x≤gJ ws lys y:=by
 obtain⟨A,Ax,_,_,hC⟩:=Kx ok h (fun _=>true) (List.filter_eq_self.mpr (fun _ _=>rfl)).symm x hx p
 obtain⟨B,_,hBd,hB⟩:=Kw ok h (fun _=>true) (List.filter_eq_self.mpr (fun _ _=>rfl)).symm (gJ ws lys x) p
 have AB:∀ y,y < 24->A y=true->B y=true:=fun y hy ay=>by
  apply Classical.byContradiction
  intro z
  have sup:=mO (mF ok) A B
  have q1:=hC (fun u=>A u && B u) (fun u _ z=>by cases z) fun u _ z=>(Bool.and_eq_true_iff.mp z).1
  have cp:0 < jw (fun u=>(A u || B u) && !B u):=pU hy (by show ((A y || B y) && !B y)=true;rw [ay,Bool.eq_false_iff.mpr z];rfl)
  have q2:=hB (fun u=>A u || B u) (fun u _ e=>by show (A u || B u)=true;rw [e,Bool.or_true]) cp
  have ec:jw (fun u=>A u && !(A u && B u))=jw (fun u=>(A u || B u) && !B u):=jZ fun u _=>by cases A u <;> cases B u <;> rfl
  rw [ec] at q1
  grind
 have no:∀ C:Nat->Bool,(∀ u,u < 24->C u=true->A u=true)->FM ws C=FM ws A->∀ u,u < 24->A u=true->C u=true:=fun C cA e u hu au=>by
  apply Classical.byContradiction
  intro z
  have c1:=pU (P:=fun u=>A u && !C u) hu (by show (A u && !C u)=true;rw [au,Bool.eq_false_iff.mpr z];rfl)
  have q:=hC C (fun u _ z=>by cases z) cA
  rw [e] at q
  have:=Rat.mul_pos p c1
  grind
 have tx:t≤x:=by
  apply Classical.byContradiction
  intro z
  have e:FM ws (fun u=>A u && decide (t≤u))=FM ws A:=aE fun w hw=>by
   have ew:=h1 w hw
   congr 1
   rw [Bool.eq_iff_iff,ca,ca]
   constructor
   ·intro q u hu hi
    exact (Bool.and_eq_true_iff.mp (q u hu hi)).1
   ·intro q u hu hi
    have hi':w.1≤u/\u≤w.2.1:=by
     unfold gm at hi
     rw [Bool.and_eq_true,decide_eq_true_iff,decide_eq_true_iff] at hi
     exact hi
    show (A u && decide (t≤u))=true
    rw [q u hu hi,decide_eq_true (by omega)]
    rfl
  have q:=no _ (fun u _ z=>(Bool.and_eq_true_iff.mp z).1) e x hx Ax
  have:=of_decide_eq_true (Bool.and_eq_true_iff.mp q).2
  omega
 obtain⟨v,tv,v24,hA,hv⟩:∃ v,t≤v/\v≤24/\(∀ u,t≤u->u < v->A u=true)/\(v < 24->A v=false):=by
  have key:∀ m,t+m≤24->(∀ u,t≤u->u < t+m->A u=true)∨∃ v,t≤v/\v≤24/\(∀ u,t≤u->u < v->A u=true)/\(v < 24->A v=false):=fun m=>by
   induction m with
   | zero=>intro _;exact .inl fun u a b=>by omega
   | succ m ih=>
    intro hm
    rcases ih (by omega) with q | q
    ·cases c:A (t+m) with
     | true=>
      refine .inl fun u a b=>?_
      by_cases r:u=t+m
      ·rw [r];exact c
      ·exact q u a (by omega)
     | false=>exact .inr ⟨t+m,by omega,by omega,q,fun _=>c⟩
    ·exact .inr q
  rcases key (24 - t) (by omega) with q | q
  ·exact⟨24,by omega,Nat.le_refl _,fun u a b=>q u a (by omega),fun z=>by omega⟩
  ·exact q
 have fA:=tP ok h1 tv v24 hA hv
 have sub:=no (fun u=>decide (u < v) && A u) (fun u _ z=>(Bool.and_eq_true_iff.mp z).2) (by
  rw [fA]
  exact tP ok h1 tv v24 (fun u a b=>by show (decide (u < v) && A u)=true;rw [hA u a b,decide_eq_true b];rfl) fun z=>by show (decide (v < v) && A v)=false;rw [decide_eq_false (by omega)];rfl)
 have xv:x < v:=of_decide_eq_true (Bool.and_eq_true_iff.mp (sub x hx Ax)).1
 refine⟨v,tx,xv,v24,fun c tc cv=>?_,fun y ty yv=>hBd y (by omega) rfl (AB y (by omega) (hA y ty yv))⟩
 have q:=hC (fun u=>decide (u < c) && A u) (fun u _ z=>by cases z) fun u _ z=>(Bool.and_eq_true_iff.mp z).2
 have fC:FM ws (fun u=>decide (u < c) && A u)=dP ws c:=tP ok h1 tc (by omega) (fun u a b=>by show (decide (u < c) && A u)=true;rw [hA u a (by omega),decide_eq_true b];rfl) fun z=>by show (decide (c < c) && A c)=false;rw [decide_eq_false (by omega)];rfl
 rw [fA,fC] at q
 have g:=GA (P:=fun u=>A u && !(decide (u < c) && A u)) cv v24 fun u a b=>by
  show (A u && !(decide (u < c) && A u))=true
  rw [hA u (by omega) b,decide_eq_false (by omega)]
  rfl
 have:=Rat.mul_le_mul_of_nonneg_left g (Rat.le_of_lt p)
 grind
end
theorem ug {f:Nat->Rat} {m:Nat}:∀ {M:Nat},m≤M->(∀ v,m≤v->v < M->f v=0)->sr f M=sr f m
 | 0,h,_=>by rw [show m=0 by omega]
 | M+1,h,z=>by
  by_cases c:m=M+1
  ·rw [c]
  ·have i:=ug (f:=f) (m:=m) (M:=M) (by omega) fun v a b=>z v a (by omega)
   show sr f M+f M=_
   rw [i,z M (by omega) (by omega)]
   grind
theorem jN {f g:Nat->Rat}:∀ {n:Nat},(∀ i,i < n->f i≤g i)->sr f n=sr g n->∀ i,i < n->f i=g i
 | 0,_,_,i,hi=>absurd hi (Nat.not_lt_zero _)
 | n+1,h,e,i,hi=>by
  have a:=qj (f:=f) (g:=g) (n:=n) fun i hi=>h i (by omega)
  have b:=h n (by omega)
  have e':sr f n+f n=sr g n+g n:=e
  by_cases c:i=n
  ·subst c;grind
  ·exact jN (n:=n) (fun i hi=>h i (by omega)) (by grind) i (by omega)
theorem qi {f:Nat->Rat} {n:Nat} (h:∀ i,i < n->0≤f i) (e:sr f n=0) (i:Nat) (hi:i < n):f i=0:=(jN (f:=fun _=>0) h (by rw [cI,e]) i hi).symm
theorem lh {f:Nat->Rat} {j:Nat}:∀ {n:Nat},j < n->sr (fun i=>if i=j then f i else 0) n=f j
 | 0,h=>absurd h (Nat.not_lt_zero _)
 | n+1,h=>by
  show sr _ n+(if n=j then f n else 0)=f j
  by_cases c:n=j
  ·rw [if_pos c,aM (g:=fun _=>0) (fun i hi=>if_neg (by omega)),cI,c]
   grind
  ·rw [if_neg c,lh (n:=n) (by omega)]
   grind
theorem Du {f g:Nat->Rat} {b:Nat}:∀ {e:Nat},b≤e->(∀ y,b≤y->y≤e->f y < g y)->sr f (e+1) - sr f b < sr g (e+1) - sr g b
 | 0,h,l=>by
  obtain rfl:b=0:=by omega
  have:=l 0 (by omega) (by omega)
  show sr f 0+f 0 - sr f 0 < sr g 0+g 0 - sr g 0
  grind
 | e+1,h,l=>by
  have y:=l (e+1) h (Nat.le_refl _)
  show sr f (e+1)+f (e+1) - sr f b < sr g (e+1)+g (e+1) - sr g b
  by_cases c:b=e+1
  ·rw [c];grind
  ·have:=Du (f:=f) (g:=g) (b:=b) (e:=e) (by omega) fun y a b=>l y a (by omega)
   grind
structure Fl (n t:Nat) (d:Nat->Nat) (a:Nat->Rat) (P:Nat->Nat->Rat) (s:Nat->Rat):Prop where
 nn:∀ i,i < n->∀ u,u < 24->0≤P i u
 win:∀ i,i < n->∀ u,u < 24->P i u≠0->t≤u/\u≤d i
 am:∀ i,i < n->a i=sr (P i) 24
 sum:∀ u,u < 24->s u=sr (fun i=>P i u) n
section
variable {n t k:Nat} {d:Nat->Nat} {a:Nat->Rat} {P:Nat->Nat->Rat} {s:Nat->Rat} {D D' s':Nat->Rat}
theorem Fl.part (F:Fl n t d a P s) {u:Nat} (hu:u < 24) {i:Nat} (hi:i < n):(if d i≤u then a i else 0)≤sr (P i) (u+1):=by
 by_cases c:d i≤u
 ·rw [if_pos c,F.am i hi,ug (m:=u+1) (M:=24) (by omega) fun v a b=>?_]
  ·exact Rat.le_refl
  ·apply Classical.byContradiction
   intro z
   have:=(F.win i hi v b z).2
   omega
 ·rw [if_neg c]
  exact Dt fun v hv=>F.nn i hi v (by omega)
theorem Fl.sums (F:Fl n t d a P s) {u:Nat} (hu:u < 24):sr s (u+1)=sr (fun i=>sr (P i) (u+1)) n:=by
 rw [oz]
 exact aM fun v hv=>F.sum v (by omega)
theorem Fl.ge (F:Fl n t d a P s) {u:Nat} (hu:u < 24):mB n d a u≤sr s (u+1):=by
 rw [F.sums hu]
 exact qj fun i hi=>F.part hu hi
theorem Fl.full (F:Fl n t d a P s) {u:Nat} (hu:u < 24) (e:mB n d a u=sr s (u+1)) {i:Nat} (hi:i < n) (h:u < d i) {v:Nat} (hv:v≤u):P i v=0:=by
 rw [F.sums hu] at e
 have q:=jN (fun i hi=>F.part hu hi) e i hi
 rw [if_neg (by omega)] at q
 exact qi (fun v hv=>F.nn i hi v (by omega)) q.symm v (by omega)
theorem Fl.next (F:Fl n t d a P s) (ht:t < 24):Fl n (t+1) d (fun i=>a i - P i t) (fun i u=>if u≤t then 0 else P i u) (fun u=>if u≤t then 0 else s u):=by
 refine⟨fun i hi u hu=>?_,fun i hi u hu z=>?_,fun i hi=>?_,fun u hu=>?_⟩
 ·show 0≤if u≤t then 0 else P i u
  split
  ·exact Rat.le_refl
  ·exact F.nn i hi u hu
 ·have z':(if u≤t then 0 else P i u)≠0:=z
  by_cases c:u≤t
  ·rw [if_pos c] at z';exact absurd rfl z'
  ·rw [if_neg c] at z'
   exact⟨by omega,(F.win i hi u hu z').2⟩
 ·show a i - P i t=sr (fun u=>if u≤t then 0 else P i u) 24
  have e:sr (P i) 24=sr (fun u=>if u=t then P i u else 0) 24+sr (fun u=>if u≤t then 0 else P i u) 24:=by
   rw [← oA]
   refine aM fun u hu=>?_
   by_cases c:u=t
   ·rw [if_pos c,if_pos (by omega)];grind
   ·rw [if_neg c]
    by_cases c2:u≤t
    ·rw [if_pos c2]
     have:P i u=0:=by
      apply Classical.byContradiction
      intro z
      have:=(F.win i hi u hu z).1
      omega
     rw [this];grind
    ·rw [if_neg c2];grind
  rw [F.am i hi,e,lh ht]
  grind
 ·show (if u≤t then 0 else s u)=sr (fun i=>if u≤t then 0 else P i u) n
  by_cases c:u≤t
  ·rw [if_pos c,aM (g:=fun _=>0) (fun i _=>if_pos c),cI]
  ·rw [if_neg c,F.sum u hu]
   exact aM fun i _=>(if_neg c).symm
theorem Oa.nextF (O:Oa t (mB n d a) s) (F:Fl n t d a P s) (ht:t < 24):Oa (t+1) (mB n d fun i=>a i - P i t) fun u=>if u≤t then 0 else s u:=by
 have su:∀ u,t < u->sr (fun u=>if u≤t then 0 else s u) u=sr s u - s t:=fun u=>by
  induction u with
  | zero=>intro h;omega
  | succ u ih=>
   intro h
   show sr _ u+(if u≤t then 0 else s u)=sr s u+s u - s t
   by_cases c:u=t
   ·subst c
    rw [if_pos (Nat.le_refl _),aM (g:=fun _=>0) (fun i hi=>if_pos (by omega)),cI,aM (f:=s) (g:=fun _=>0) (fun i hi=>O.bf i hi),cI]
    grind
   ·rw [ih (by omega),if_neg (by omega)]
    grind
 refine⟨fun u=>?_,fun u hu=>if_pos (by omega),fun u hu=>?_,fun u hu=>?_,fun u hu=>(F.next ht).ge hu,fun u h hu f=>?_⟩
 ·show 0≤if u≤t then 0 else s u
  split
  ·exact Rat.le_refl
  ·exact O.nn u
 ·show (if u≤t then 0 else s u)=0
  rw [if_neg (by omega)]
  exact O.z u hu
 ·show (if u+1≤t then 0 else s (u+1))≤if u≤t then 0 else s u
  rw [if_neg (by omega),if_neg (by omega)]
  exact O.dec u (by omega)
 ·have f':(if u+1≤t then 0 else s (u+1)) < if u≤t then 0 else s u:=f
  rw [if_neg (by omega),if_neg (by omega)] at f'
  have e:=O.eq u (by omega) hu f'
  rw [su (u+1) (by omega),← e,F.sum t ht]
  unfold mB
  rw [← rN]
  refine aM fun i hi=>?_
  by_cases c:d i≤u
  ·rw [if_pos c,if_pos c]
  ·rw [if_neg c,if_neg c,F.full hu e hi (by omega) (by omega)]
   grind
theorem pQ {v:Nat} (dec:∀ u,t≤u->s (u+1)≤s u):∀ (m u:Nat),t≤u->u+m=v->s v < s u->∃ e,u≤e/\e < v/\s (e+1) < s e/\s e=s u
 | 0,u,_,h,l=>by
  rw [show v=u by omega] at l
  grind
 | m+1,u,tu,h,l=>by
  by_cases c:s (u+1) < s u
  ·exact⟨u,Nat.le_refl _,by omega,c,rfl⟩
  ·have e:s (u+1)=s u:=Rat.le_antisymm (dec u tu) (Rat.not_lt.mp c)
   obtain⟨e',h1,h2,h3,h4⟩:=pQ (v:=v) dec m (u+1) (by omega) (by omega) (by rw [e];exact l)
   exact⟨e',by omega,h2,h3,by rw [h4,e]⟩
theorem Oa.own1 (O:Oa t (mB n d a) s) (F:Fl n t d a P s) (ht:t < 24) {i:Nat} (hi:i < n) (hd:d i < 24) (z:P i t≠0):s (d i)=s t:=by
 have w:=(F.win i hi t ht z).2
 apply Classical.byContradiction
 intro ne
 have l:s (d i) < s t:=by
  have:=O.le (Nat.le_refl _) w
  grind
 obtain⟨e,h1,h2,h3,_⟩:=pQ (v:=d i) O.dec (d i - t) t (Nat.le_refl _) (by omega) l
 exact z (F.full (u:=e) (by omega) (O.eq e h1 (by omega) h3) hi h2 h1)
theorem oW (dec:∀ u,t≤u->s (u+1)≤s u):∀ u,t≤u->∃ b,t≤b/\b≤u/\s b=s u/\(b=t∨(t < b/\s b < s (b - 1)))
 | 0,h=>⟨0,h,Nat.le_refl _,rfl,.inl (by omega)⟩
 | u+1,h=>by
  by_cases c:t=u+1
  ·exact⟨u+1,h,Nat.le_refl _,rfl,.inl c.symm⟩
  ·by_cases q:s (u+1) < s u
   ·exact⟨u+1,h,Nat.le_refl _,rfl,.inr ⟨by omega,q⟩⟩
   ·have e:s (u+1)=s u:=Rat.le_antisymm (dec u (by omega)) (Rat.not_lt.mp q)
    obtain⟨b,h1,h2,h3,h4⟩:=oW dec u (by omega)
    exact⟨b,h1,by omega,by rw [h3,e],h4⟩
theorem Oa.up (O:Oa t D s) (O':Oa t D' s') (mo:∀ u v,u≤v->v < 24->D' u - D u≤D' v - D v) (p:∀ u,u < 24->D u≤D' u) (u:Nat):s u≤s' u:=by
 by_cases c1:u < t
 ·rw [O.bf u c1];exact O'.nn u
 by_cases c2:24≤u
 ·rw [O.z u c2];exact O'.nn u
 apply Classical.byContradiction
 intro no
 have l:=Rat.not_le.mp no
 have n':=O'.nn u
 obtain⟨e,e1,e2,e3,e4⟩:=pQ (v:=24) O.dec (24 - u) u (by omega) (by omega) (by rw [O.z 24 (Nat.le_refl _)];grind)
 obtain⟨b,b1,b2,b3,b4⟩:=oW O'.dec u (by omega)
 have de:=O.eq e (by omega) e2 e3
 have ge:=O'.ge e e2
 have lt:=Du (f:=s') (g:=s) (b:=b) (e:=e) (by omega) fun y h1 h2=>by
  have a1:=O'.le b1 h1
  have a2:=O.le (u:=y) (v:=e) (by omega) h2
  grind
 have q:sr s (e+1) - sr s b≤sr s' (e+1) - sr s' b:=by
  rcases b4 with rfl | ⟨tb,f⟩
  ·rw [aM (f:=s) (g:=fun _=>0) (fun i hi=>O.bf i hi),aM (f:=s') (g:=fun _=>0) (fun i hi=>O'.bf i hi)]
   have:=p e e2
   grind
  ·obtain⟨x,rfl⟩:∃ x,b=x+1:=⟨b - 1,by omega⟩
   have e0:=O'.eq x (by omega) (by omega) f
   have g0:=O.ge x (by omega)
   have m0:=mo x e (by omega) e2
   grind
 grind
end
def kr (ws:List Wk) (lys:List Ly) (u:Nat):Rat:=if u < 24 then gJ ws lys u else 0
theorem CJ {w:Wk} {t:Nat}:gm w t=true↔w.1≤t/\t≤w.2.1:=by
 unfold gm
 rw [Bool.and_eq_true,decide_eq_true_iff,decide_eq_true_iff]
theorem yR {f:Pc->Rat} {m:Nat} (g:Nat->Rat):∀ {q:List Pc},(∀ c∈q,c.1 < m)->sQ (fun c=>g c.1 * f c) q=sr (fun j=>g j * sQ (fun c:Pc=>bD (decide (c.1=j)) (f c)) q) m
 | [],_=>by
  rw [aM (g:=fun _=>0) fun j _=>by show g j * 0=0;grind,cI]
  rfl
 | c :: q,h=>by
  have e:sr (fun j=>g j * sQ (fun c:Pc=>bD (decide (c.1=j)) (f c)) (c :: q)) m=sr (fun j=>if j=c.1 then g j * f c else 0) m+sr (fun j=>g j * sQ (fun c:Pc=>bD (decide (c.1=j)) (f c)) q) m:=by
   rw [← oA]
   refine aM fun j _=>?_
   show g j * (bD (decide (c.1=j)) (f c)+_)=_
   by_cases z:j=c.1
   ·rw [decide_eq_true z.symm,if_pos z,cm];grind
   ·rw [decide_eq_false (fun y=>z y.symm),if_neg z,bJ];grind
  rw [e,lh (f:=fun j=>g j * f c) (h c List.mem_cons_self),← yR g fun x hx=>h x (List.mem_cons_of_mem _ hx)]
  rfl
section
variable {ws:List Wk} {t:Nat} {lys:List Ly}
theorem DS (ok:∀ w∈ws,bF w) (h1:∀ w∈ws,w.1=t) {u:Nat}:dP ws (u+1)=mB ws.length (fun j=>(ws.getD j bC).2.1) (fun j=>gE (ws.getD j bC)) u:=by
 unfold dP FM mB
 rw [gc bC ws,nA]
 refine aM fun j hj=>?_
 have e:ws.getD j bC=ws[j]:=av bC (List.getElem?_eq_getElem hj)
 have o:=ok _ (List.getElem_mem hj)
 rw [e]
 have b:f6 (fun x=>decide (x < u+1)) ws[j]=decide (ws[j].2.1≤u):=by
  rw [Bool.eq_iff_iff,ca,decide_eq_true_iff]
  constructor
  ·intro q
   have:=of_decide_eq_true (q ws[j].2.1 o.lt (CJ.mpr ⟨o.le,Nat.le_refl _⟩))
   omega
  ·intro q x _ i
   have:=(CJ.mp i).2
   exact decide_eq_true (by omega)
 rw [b]
 show _=if (ws.getD j bC).2.1≤u then gE (ws.getD j bC) else 0
 rw [e]
 by_cases c:ws[j].2.1≤u
 ·rw [decide_eq_true c,if_pos c,cm]
 ·rw [decide_eq_false c,if_neg c,bJ]
theorem rf (ok:∀ w∈ws,bF w) (w20:ws.length≤20) (h:gY ws (List.range 24) lys) {u:Nat} (hu:u < 24):sQ (fun p:Pc=>val p.2) ((c5 ws (aP ws lys)).2.getD u [])=gJ ws lys u:=by
 have lok:=l9 h (by rw [List.length_range];exact Nat.le_refl _) (fun t ht=>List.mem_range.mp ht)
 have z:=xf (ws:=ws) ok h (lj ok w20 lok) hu
 have g:∀ n,u < n->(bb ws (aS ws ws.length) (aP ws lys) n).2.getD u []=(eU ws (aS ws ws.length) u (bb ws (aS ws ws.length) (aP ws lys) u).1 ((aP ws lys).getD u (0,1))).2.2:=by
  intro n
  induction n with
  | zero=>intro z;omega
  | succ n ih=>
   intro hn
   have ln:=(fk (ord:=aS ws ws.length) (ss:=aP ws lys) ok (dU (ws:=ws) ws.length (Nat.le_refl _)).lt (lj ok w20 lok) n).2
   show ((bb ws (aS ws ws.length) (aP ws lys) n).2++[_]).getD u []=_
   by_cases c:u < n
   ·rw [List.getD_eq_getElem?_getD,List.getElem?_append_left (by omega),← List.getD_eq_getElem?_getD]
    exact ih c
   ·have:u=n:=by omega
    subst this
    rw [List.getD_eq_getElem?_getD,List.getElem?_append_right (by omega),ln,Nat.sub_self]
    rfl
 rw [← g 24 hu] at z
 exact z
theorem uN (ok:∀ w∈ws,bF w) (h1:∀ w∈ws,w.1=t) (w20:ws.length≤20) (h:gY ws (List.range 24) lys):Fl ws.length t (fun j=>(ws.getD j bC).2.1) (fun j=>gE (ws.getD j bC)) (fun j u=>mS (c5 ws (aP ws lys)).2 j u) (kr ws lys):=by
 have pr:=gj ok w20 h
 have row:=fun (u:Nat) hu=>rf (u:=u) ok w20 h hu
 generalize (c5 ws (aP ws lys)).2=pl at pr row ⊢
 refine⟨fun j _ u hu=>pr.pt_nn hu,fun j hj u hu z=>?_,fun j hj=>?_,fun u hu=>?_⟩
 ·apply Classical.byContradiction
  intro no
  refine z ?_
  have e:∀ c∈pl.getD u [],bD (decide (c.1=j)) (val c.2)=(0:Rat) * 0:=fun c hc=>by
   by_cases q:c.1=j
   ·exfalso
    have m:=(pr.mem hu hc).2.2.2
    rw [q] at m
    have i:=CJ.mp m
    rw [show (ws.getD j bC).1=t from by rw [av bC (List.getElem?_eq_getElem hj)];exact h1 _ (List.getElem_mem hj)] at i
    exact no i
   ·rw [decide_eq_false q,bJ];grind
  show sQ _ _=0
  rw [aE e,c9]
  grind
 ·have e:=(pr.sum j 24 (Nat.le_refl _)).2
  rw [pr.fin j hj,nA] at e
  exact e
 ·show (if u < 24 then _ else _)=_
  rw [if_pos hu,← row u hu]
  have:=yR (f:=fun c:Pc=>val c.2) (m:=ws.length) (fun _=>1) (q:=pl.getD u []) fun c hc=>(pr.mem hu hc).1
  rw [aE (g:=fun c:Pc=>(1:Rat) * val c.2) fun c _=>by grind,this]
  refine aM fun j _=>?_
  show 1 * mS pl j u=mS pl j u
  grind
theorem L1 (ok:∀ w∈ws,bF w) (h1:∀ w∈ws,w.1=t) (ht:t < 24) (w20:ws.length≤20) (h:gY ws (List.range 24) lys):Oa t (mB ws.length (fun j=>(ws.getD j bC).2.1) fun j=>gE (ws.getD j bC)) (kr ws lys):=by
 have F:=uN ok h1 w20 h
 have nn:∀ u,0≤kr ws lys u:=fun u=>by
  unfold kr
  split
  ·exact xQ ok h u
  ·exact Rat.le_refl
 have X:∀ u,u < 24->kr ws lys u=gJ ws lys u:=fun u hu=>if_pos hu
 have M:=fun (x:Nat) (hx:x < 24) (p:0 < kr ws lys x)=>CA ok h1 h hx (by rw [← X x hx];exact p)
 have bf:∀ u,u < t->kr ws lys u=0:=fun u hu=>by
  apply Classical.byContradiction
  intro z
  obtain⟨v,tx,_⟩:=M u (by omega) (by have:=nn u;grind)
  omega
 have dec:∀ u,t≤u->kr ws lys (u+1)≤kr ws lys u:=fun u tu=>by
  by_cases c:u+1 < 24
  ·apply Classical.byContradiction
   intro z
   have l:=Rat.not_le.mp z
   have n0:=nn u
   obtain⟨v,a1,a2,a3,_,a4⟩:=M (u+1) c (by grind)
   have:=a4 u tu (by omega)
   rw [X _ c,X u (by omega)] at l
   grind
  ·rw [show kr ws lys (u+1)=0 from if_neg c]
   exact nn u
 refine⟨nn,bf,fun u hu=>if_neg (by omega),dec,fun u hu=>F.ge hu,?_⟩
 have go:∀ m u,u < m->t≤u->u < 24->kr ws lys (u+1) < kr ws lys u->dP ws (u+1)=sr (kr ws lys) (u+1):=fun m=>by
  induction m with
  | zero=>intro u h;omega
  | succ m ih=>
   intro u hm tu hu f
   have n0:=nn (u+1)
   obtain⟨v,_,a2,a3,ac,a4⟩:=M u hu (by grind)
   have ev:v=u+1:=by
    apply Classical.byContradiction
    intro z
    have:=a4 (u+1) (by omega) (by omega)
    rw [X u hu,X (u+1) (by omega)] at f
    grind
   subst ev
   obtain⟨b,b1,b2,b3,b4⟩:=oW dec u tu
   have le:∀ y w,t≤y->y≤w->kr ws lys w≤kr ws lys y:=fun y w hy=>by
    induction w with
    | zero=>intro q;rw [show y=0 by omega];exact Rat.le_refl
    | succ w ihw=>
     intro q
     by_cases c:y=w+1
     ·rw [c];exact Rat.le_refl
     ·have:=ihw (by omega)
      have:=dec w (by omega)
      grind
   have sm:∀ k,b+k≤u+1->sr (kr ws lys) (b+k)=sr (kr ws lys) b+(k:Rat) * kr ws lys u:=fun k=>by
    induction k with
    | zero=>intro _;show sr _ b=sr _ b+((0:Nat):Rat) * _;rw [show ((0:Nat):Rat)=0 from rfl];grind
    | succ k ihk=>
     intro q
     have e1:=le b (b+k) b1 (by omega)
     have e2:=le (b+k) u (by omega) (by omega)
     have e3:kr ws lys (b+k)=kr ws lys u:=by rw [b3] at e1;exact Rat.le_antisymm e1 e2
     show sr _ (b+k)+kr ws lys (b+k)=_
     rw [ihk (by omega),e3,show ((k+1:Nat):Rat)=(k:Rat)+1 from Rat.natCast_add k 1]
     grind
   have s1:=sm (u+1 - b) (by omega)
   rw [show b+(u+1 - b)=u+1 by omega] at s1
   have c1:=ac b b1 (by omega)
   rw [← X u hu] at c1
   have ge:=F.ge hu
   rw [← DS ok h1] at ge
   have base:sr (kr ws lys) b=dP ws b:=by
    rcases b4 with rfl | ⟨tb,fb⟩
    ·rw [aM (g:=fun _=>0) (fun i hi=>bf i hi),cI]
     unfold dP FM
     have e:∀ w∈ws,bD (f6 (fun x=>decide (x < b)) w) (gE w)=(0:Rat) * 0:=fun w hw=>by
      have o:=ok w hw
      have ole:=o.le
      have olt:=o.lt
      have e1:=h1 w hw
      have z:f6 (fun x=>decide (x < b)) w=false:=Bool.eq_false_iff.mpr fun y=>by
       have:=of_decide_eq_true (ca.mp y w.1 (by omega) (CJ.mpr ⟨Nat.le_refl _,o.le⟩))
       omega
      rw [z,bJ];grind
     rw [aE e,c9]
     grind
    ·obtain⟨x,rfl⟩:∃ x,b=x+1:=⟨b - 1,by omega⟩
     exact (ih x (by omega) (by omega) (by omega) fb).symm
   refine Rat.le_antisymm ge ?_
   rw [s1,base]
   grind
 intro u tu hu f
 rw [← DS ok h1]
 exact go (u+1) u (by omega) tu hu f
end
def push (m:Nat) (σ:Nat->Nat) (x:Nat->Rat) (i:Nat):Rat:=sr (fun j=>if σ j=i then x j else 0) m
section
variable {n m t:Nat} {σ d d':Nat->Nat} {x y a:Nat->Rat} {P:Nat->Nat->Rat} {s:Nat->Rat}
theorem qI (hσ:∀ j,j < m->σ j < n) (g:Nat->Rat):sr (fun i=>g i * push m σ x i) n=sr (fun j=>g (σ j) * x j) m:=by
 have e:sr (fun i=>g i * push m σ x i) n=sr (fun i=>sr (fun j=>if σ j=i then g i * x j else 0) m) n:=aM fun i _=>by
  unfold push
  rw [← xH]
  refine aM fun j _=>?_
  by_cases c:σ j=i
  ·rw [if_pos c,if_pos c]
  ·rw [if_neg c,if_neg c];grind
 rw [e,oz]
 refine aM fun j hj=>?_
 rw [aM (g:=fun i=>if i=σ j then g i * x j else 0) fun i _=>by
  by_cases c:σ j=i
  ·rw [if_pos c,if_pos c.symm]
  ·rw [if_neg c,if_neg fun z=>c z.symm],lh (f:=fun i=>g i * x j) (hσ j hj)]
theorem ze (i:Nat):push m σ (fun j=>x j - y j) i=push m σ x i - push m σ y i:=by
 unfold push
 rw [← rN]
 refine aM fun j _=>?_
 by_cases c:σ j=i
 ·rw [if_pos c,if_pos c,if_pos c]
 ·rw [if_neg c,if_neg c,if_neg c];grind
theorem BS {i:Nat} (h:push m σ x i≠0):∃ j,j < m/\σ j=i/\x j≠0:=by
 apply Classical.byContradiction
 intro no
 refine h ?_
 unfold push
 rw [aM (g:=fun _=>0) fun j hj=>?_,cI]
 by_cases c:σ j=i
 ·rw [if_pos c]
  apply Classical.byContradiction
  intro z
  exact no ⟨j,hj,c,z⟩
 ·rw [if_neg c]
theorem o7 (hσ:∀ j,j < m->σ j < n/\d (σ j)=d' j):mB n d (push m σ x)=mB m d' x:=by
 funext u
 have e:=qI (x:=x) (fun j hj=>(hσ j hj).1) fun i=>if d i≤u then (1:Rat) else 0
 unfold mB
 rw [aM (g:=fun i=>(if d i≤u then (1:Rat) else 0) * push m σ x i) fun i _=>by
  by_cases c:d i≤u
  ·rw [if_pos c,if_pos c];grind
  ·rw [if_neg c,if_neg c];grind,e]
 refine aM fun j hj=>?_
 rw [(hσ j hj).2]
 by_cases c:d' j≤u
 ·rw [if_pos c,if_pos c];grind
 ·rw [if_neg c,if_neg c];grind
structure Tf (n t:Nat) (d:Nat->Nat) (c p:Nat->Rat) (s:Nat->Rat):Prop where
 oa:Oa t (mB n d c) s
 nx:Oa (t+1) (mB n d fun i=>c i - p i) fun u=>if u≤t then 0 else s u
 sum:sr p n=s t
 own:∀ i,i < n->p i≠0->s (d i)=s t
theorem Bf (hσ:∀ j,j < m->σ j < n/\d (σ j)=d' j) (O:Oa t (mB m d' a) s) (F:Fl m t d' a P s) (ht:t < 24) (hd:∀ j,j < m->d' j < 24):Tf n t d (push m σ a) (push m σ fun j=>P j t) s:=by
 refine⟨by rw [o7 hσ];exact O,?_,?_,fun i hi z=>?_⟩
 ·have e:(fun i=>push m σ a i - push m σ (fun j=>P j t) i)=push m σ fun j=>a j - P j t:=by
   funext i
   exact (ze i).symm
  rw [e,o7 hσ]
  exact O.nextF F ht
 ·have e:=qI (x:=fun j=>P j t) (fun j hj=>(hσ j hj).1) fun _=>(1:Rat)
  rw [F.sum t ht,aM (g:=fun i=>(1:Rat) * push m σ (fun j=>P j t) i) fun i _=>by grind,e]
  exact aM fun j _=>by grind
 ·obtain⟨j,hj,rfl,zj⟩:=BS z
  rw [(hσ j hj).2]
  exact O.own1 F ht hj (hd j hj) zj
end
def aV (ws:List Wk) (pl:List (List Pc)) (t i:Nat):Rat:=(if (ws.getD i bC).1 < t then gE (ws.getD i bC) else 0) - sr (mS pl i) t
def wV (ws:List Wk) (t i:Nat):Rat:=if (ws.getD i bC).1=t then gE (ws.getD i bC) else 0
def qS (ws:List Wk) (pl:List (List Pc)) (t:Nat):List R:=eX (ws.map fun w=>if w.1 < t then w.2.2 else (0,1)) (pl.take t).flatten
theorem xD {D:Nat} (hD:0 < D):∀ {q:List Pc} {rs:List R},(∀ c∈q,BD D c.2)->(∀ r∈rs,BD D r)->(∀ r∈eX rs q,BD D r)/\∀ i,i < rs.length->val ((eX rs q).getD i (0,1))=val (rs.getD i (0,1)) - sQ (fun c:Pc=>bD (decide (c.1=i)) (val c.2)) q
 | [],rs,_,h=>⟨h,fun i _=>by show _=_ - (0:Rat);rw [Rat.sub_eq_add_neg];show _=_+-0;show val (rs.getD i (0,1))=_;grind⟩
 | c :: q,rs,hq,h=>by
  have hc:=hq c List.mem_cons_self
  have hx:=kM h c.1
  have h':∀ r∈rs.set c.1 (bu (rs.getD c.1 (0,1)) c.2),BD D r:=fun r hr=>by
   rcases List.mem_or_eq_of_mem_set hr with z | z
   ·exact h r z
   ·rw [z];exact hx.minus hD hc
  obtain⟨a,b⟩:=xD hD (fun x hx=>hq x (List.mem_cons_of_mem _ hx)) h'
  refine⟨a,fun i hi=>?_⟩
  show val ((eX (rs.set c.1 _) q).getD i (0,1))=val (rs.getD i (0,1)) - (bD (decide (c.1=i)) (val c.2)+sQ _ q)
  rw [b i (by rw [List.length_set];exact hi)]
  by_cases z:c.1=i
  ·rw [decide_eq_true z,cm,z,av (0,1) (List.getElem?_set_self hi),df (by have:=kM h i;exact this.1.pos) hc.1.pos]
   grind
  ·rw [decide_eq_false z,bJ,List.getD_eq_getElem?_getD,List.getElem?_set_ne z,← List.getD_eq_getElem?_getD]
   grind
theorem Bi {f:Nat->Rat} {l:List Nat}:sr (fun j=>f (l.getD j 0)) l.length=sQ f l:=by rw [gc 0 l,nA]
section
variable {kn:List Wk} {rs:List R} {t:Nat} {ns:List Nat}
theorem Bb {j:Nat} (hj:j < (aF rs).length):gE ((bc kn rs t).getD j bC)=val (rs.getD ((aF rs).getD j 0) (0,1)):=by
 rw [kA hj,av 0 (List.getElem?_eq_getElem hj)]
 rfl
theorem vg (len:ns.length=rs.length) (i:Nat):push (bc kn rs t).length (fun j=>ns.getD ((aF rs).getD j 0) 0) (fun j=>gE ((bc kn rs t).getD j bC)) i=sr (fun k=>if ns.getD k 0=i then val (rs.getD k (0,1)) else 0) ns.length:=by
 unfold push
 rw [cX,aM (g:=fun j=>(fun k=>if ns.getD k 0=i then val (rs.getD k (0,1)) else 0) ((aF rs).getD j 0)) fun j hj=>?_,Bi (f:=fun k=>if ns.getD k 0=i then val (rs.getD k (0,1)) else 0)]
 ·unfold aF
  rw [fM,nA,len]
  refine aM fun k _=>?_
  by_cases c:rs.getD k (0,1)=(0,1)
  ·rw [decide_eq_false fun z=>z c,bJ,c,(dX (r:=(0,1)) (by decide)).mpr rfl]
   split <;> rfl
  ·rw [decide_eq_true c,cm]
 ·dsimp only
  rw [Bb hj]
theorem Ba (len:ns.length=rs.length) (nd:ns.Nodup) {k:Nat} (hk:k < ns.length):push (bc kn rs t).length (fun j=>ns.getD ((aF rs).getD j 0) 0) (fun j=>gE ((bc kn rs t).getD j bC)) (ns.getD k 0)=val (rs.getD k (0,1)):=by
 rw [vg len,← lh (f:=fun k=>val (rs.getD k (0,1))) hk]
 refine aM fun j hj=>?_
 by_cases c:j=k
 ·subst c;rw [if_pos rfl,if_pos rfl]
 ·rw [if_neg c,if_neg fun z=>c ?_]
  rw [av 0 (List.getElem?_eq_getElem hj),av 0 (List.getElem?_eq_getElem hk)] at z
  exact (List.getElem_inj nd).mp z
end
section
variable {ws:List Wk} {s:dW} {ns:List Nat} {t:Nat}
def GJ (ws:List Wk) (pl:List (List Pc)) (t:Nat):Prop:=∀ i,i < ws.length->Bq (DK t) 12 ((qS ws pl t).getD i (0,1))/\0≤((qS ws pl t).getD i (0,1)).1
def K0 (ws:List Wk) (pl:List (List Pc)) (t:Nat):Prop:=∃ sp,Tf ws.length t (fun i=>(ws.getD i bC).2.1) (fun i=>aV ws pl t i+wV ws t i) (fun i=>mS pl i t) sp
end
inductive iQ (K:PySem.W.Frag) (C:Addr) (vs:List V) (H:Hp) (Q:VK):Prop where
 | mk (a lk lr ld:Addr) (s:dW) (h0_:vs=[.ref a]) (h1_:kg K C H a lk lr ld s) (h2_:kO s) (h3_:s.tn < 24) (h4_:(∀ (q0:List Pc) (v:V) (H':Hp),Hc s q0->GK a lk lr ld H H'->kg K C H' a lk lr ld (Gq s (bY (aF s.rs) q0))->rp K H' v (bY (aF s.rs) q0)->Q v H')):iQ K C vs H Q
def oJ (K:PySem.W.Frag) (C:Addr):Sp:=fun vs H Q _=>iQ K C vs H Q
theorem aN.steps {K:PySem.W.Frag} {t:Addr} {H H':Hp} {xs:List V} (h:H t=some (.lst xs)) (k:∀ b o,b≠t->H b=some o->H' b=some o) (h':∃ ys,H' t=some (.lst ys)):aN K H H':=aN.step ⟨k,⟨xs,h⟩,h'⟩
theorem xC (rs:List R) (q:List Pc) (c:Pc):eX rs (q++[c])=(eX rs q).set c.1 (bu ((eX rs q).getD c.1 (0,1)) c.2):=by
 unfold eX
 rw [List.foldl_append]
 rfl
theorem xi {q:List Pc} {i:Nat} {c:Pc} (nd:(q.map (·.1)).Nodup) (hc:q[i]?=some c):c.1∉(q.take i).map (·.1):=fun m=>by
 obtain⟨hi,ei⟩:=List.getElem?_eq_some_iff.mp hc
 obtain⟨z,hz,ez⟩:=List.mem_map.mp m
 obtain⟨j,hj,ej⟩:=List.mem_iff_getElem.mp hz
 have hj':=hj
 rw [List.length_take] at hj'
 rw [List.getElem_take] at ej
 have e:(q.map (·.1))[j]'(by rw [List.length_map];omega)=(q.map (·.1))[i]'(by rw [List.length_map];exact hi):=by
  rw [List.getElem_map,List.getElem_map,ej,ei]
  exact ez
 have:=(List.getElem_inj nd).mp e
 omega
theorem C0 {s:dW} {i:Int} {du:PyData} (h1:(s.tn:Int)≤i) (h2:i≤23):mD s (.int i) du=(dA du && decide (s.kn.length < 20)):=by
 unfold mD
 congr 1
 show ((decide ((0:Int)≤(s.tn:Nat)) && decide (((s.tn:Nat):Int) < 24)) && ((decide (0≤i) && decide (i < 24)) && (decide (((s.tn:Nat):Int)≤i) && dA du)))=dA du
 rw [decide_eq_true (show (0:Int)≤(s.tn:Nat) by omega),decide_eq_true (show ((s.tn:Nat):Int) < 24 by omega),decide_eq_true (show 0≤i by omega),decide_eq_true (show i < 24 by omega),decide_eq_true h1]
 rfl
theorem IQ:kO ⟨0,[],[],[]⟩:=⟨by decide,rfl,by decide,rfl,(fun w h=>by cases h),(fun r h=>by cases h),(fun i h=>by cases h),(fun q h=>by cases h)⟩
theorem CB {a b:Int} (h1:1≤a) (h2:a≤12) (h3:1≤b) (h5:b∣84):Bq 84 12 (eG a b):=uQ (by omega) h5 (by
 have:12 * 1≤12 * b.natAbs:=Nat.mul_le_mul_left _ (by omega)
 omega)
theorem Da {r:R} (h:iC r) (p:0 < r.1):dA (dR r)=true:=by
 show ((decide (1≤r.2) && decide (Int.gcd r.1 r.2=1)) && decide (0 < r.1))=true
 rw [decide_eq_true (show 1≤r.2 by have:=h.pos;omega),decide_eq_true h.cop,decide_eq_true p]
 rfl
theorem sW {H:Hp} {a dx b:Addr} {o1 o2:HO} (h:aG (aG H dx o1) a o2 b=none) (ha:H a=none) (hd:H dx=none):H b=none:=by
 cases e:H b with
 | none=>rfl
 | some o=>
  exfalso
  rw [az (fun z=>by rw [z,ha] at e;cases e),az (fun z=>by rw [z,hd] at e;cases e),e] at h
  cases h
theorem Gy {r q:R} (h:dR r=dR q):r=q:=by
 have z:PyData.tuple [.int r.1,.int r.2]=PyData.tuple [.int q.1,.int q.2]:=h
 injection z with z
 injection z with z1 z
 injection z with z2 _
 injection z1 with z1
 injection z2 with z2
 exact Prod.ext z1 z2
theorem kg.keep {K:PySem.W.Frag} {C:Addr} {H H':Hp} {a lk lr ld:Addr} {s:dW} (h:kg K C H a lk lr ld s) (z:∀ b∈[a,lk,lr,ld],∀ o,H b=some o->H' b=some o) (t:aN K H H'):kg K C H' a lk lr ld s:=by
 obtain⟨dx,i⟩:=h.ins
 obtain⟨x,k1,k2⟩:=h.hk
 obtain⟨y,r1,r2⟩:=h.hr
 obtain⟨u,d1,d2⟩:=h.hd
 exact⟨⟨dx,z _ (by simp) _ i⟩,⟨x,z _ (by simp) _ k1,k2.mono fun _ _ q=>q.mono t⟩,⟨y,z _ (by simp) _ r1,r2.mono fun _ _ q=>q.mono t⟩,⟨u,z _ (by simp) _ d1,d2.mono fun _ _ q=>q.mono t⟩,h.n1,h.n2,h.n3⟩
theorem kg.cls {K:PySem.W.Frag} {C:Addr} {H:Hp} {a lk lr ld:Addr} {s:dW} (h:kg K C H a lk lr ld s):∀ b∈[a,lk,lr,ld],∃ o,H b=some o:=fun b hb=>by
 obtain⟨dx,i⟩:=h.ins
 obtain⟨x,k1,_⟩:=h.hk
 obtain⟨y,r1,_⟩:=h.hr
 obtain⟨u,d1,_⟩:=h.hd
 simp only [List.mem_cons,List.not_mem_nil,or_false] at hb
 rcases hb with rfl | rfl | rfl | rfl
 ·exact⟨_,i⟩
 ·exact⟨_,k1⟩
 ·exact⟨_,r1⟩
 ·exact⟨_,d1⟩
def iy (S:List Addr) (H H':Hp):Prop:=∀ b o,b∉S->H b=some o->H' b=some o
theorem iy.trans {S:List Addr} {H H1 H2:Hp} (a:iy S H H1) (b:iy S H1 H2):iy S H H2:=fun c o n e=>b c o n (a c o n e)
theorem iy.of {S:List Addr} {H H':Hp} (z:aB H H'):iy S H H':=fun b o _ e=>z b o e
theorem iy.sub {S S':List Addr} {H H':Hp} (h:iy S H H') (z:∀ b∈S,b∈S'):iy S' H H':=fun b o n e=>h b o (fun q=>n (z b q)) e
theorem GK.stl {a lk lr ld:Addr} {H H':Hp} (h:GK a lk lr ld H H'):iy [a,lk,lr,ld] H H':=fun b o n e=>by
 simp only [List.mem_cons,List.not_mem_nil,or_false,not_or] at n
 exact h b o n.1 n.2.1 n.2.2.1 n.2.2.2 e
theorem iy.tp {t:Addr} {H:Hp} (o:HO):iy [t] H (aG H t o):=fun b o' n e=>by rw [az (fun z=>n (by rw [z];exact List.mem_singleton.mpr rfl))];exact e
theorem Ab {a b:Int} (h1:1≤a) (h3:1≤b):0 < (eG a b).1:=Cz (by omega) (by omega)
theorem Ai {H H1:Hp} {a dx lk lr ld:Addr} {o1 o2:HO} (ha:H a=none) (hd:H dx=none) (f1:∀ b o,b≠a->aG (aG H dx o1) a o2 b=some o->H1 b=some o) (nk:aG (aG H dx o1) a o2 lk=none) (nr:aG (aG H dx o1) a o2 lr=none) (nd:aG (aG H dx o1) a o2 ld=none):aB H H1/\∀ x∈[a,lk,lr,ld],H x=none:=by
 refine⟨fun b o e=>?_,fun x hx=>?_⟩
 ·have n1:b≠a:=fun z=>by rw [z,ha] at e;cases e
  have n2:b≠dx:=fun z=>by rw [z,hd] at e;cases e
  exact f1 b o n1 (by rw [az n1,az n2];exact e)
 ·simp only [List.mem_cons,List.not_mem_nil,or_false] at hx
  rcases hx with rfl | rfl | rfl | rfl
  ·exact ha
  ·exact sW nk ha hd
  ·exact sW nr ha hd
  ·exact sW nd ha hd
theorem nI {H H':Hp} {x:Addr} (z:aB H H') (e:H' x=none):H x=none:=by
 cases q:H x with
 | none=>rfl
 | some o=>rw [z x o q] at e;cases e
structure FB (H0:Hp) (a lk lr ld ln lp:Addr):Prop where
 fa:∀ x∈[a,lk,lr,ld],H0 x=none
 fn:H0 ln=none
 fp:H0 lp=none
 nn:ln∉[a,lk,lr,ld]
 np:lp∉[a,lk,lr,ld]
 nl:ln≠lp
structure Bk (K:PySem.W.Frag) (C:Addr) (H0:Hp) (a lk lr ld ln lp:Addr) (H:Hp) (s:dW) (ns:List Nat) (pl:List (List Pc)):Prop where
 sm:aB H0 H
 kp:kg K C H a lk lr ld s
 hn:H ln=some (.lst (ba ns))
 hp:∃ ys,H lp=some (.lst ys)/\cn (rp K H) ys pl
section
variable {K:PySem.W.Frag} {C:Addr} {H0 H H':Hp} {a lk lr ld ln lp:Addr} {s s':dW} {ns:List Nat} {pl:List (List Pc)}
end
inductive iN (K:PySem.W.Frag) (vs:List V) (H:Hp) (Q:VK):Prop where
 | mk (v:V) (ws:List Wk) (h0_:vs=[v]) (h1_:eD K H v ws) (h2_:wK ws) (h3_:∀ (v':V) (s:dW) (H':Hp),aB H H'->G6 ws 24 s->KI ws s (JZ ws 24)->A7 K H' v' (s.dn.map (bY (JZ ws 24)))->Q v' H'):iN K vs H Q
def Bz (K:PySem.W.Frag):Sp:=fun vs H Q _=>iN K vs H Q
def Mr (w:Wk):Prop:=w.1≤w.2.1/\w.2.1 < 24/\Bq 84 12 w.2.2/\0 < w.2.2.1
structure Wl (K:PySem.W.Frag) (H0:Hp) (t l lw:Addr) (H:Hp) (ws:List Wk):Prop where
 st:iy [t] H0 H
 tb:d9 H t l
 hw:∃ zs,H lw=some (.lst zs)/\cn (AS K H) zs ws
 ne:lw≠t
 nl:lw≠l
 f0:H0 lw=none
 gd:∀ w∈ws,Mr w
section
variable {K:PySem.W.Frag} {H0 H H':Hp} {t l lw:Addr} {ws:List Wk}
end
def Oi (K:PySem.W.Frag) (H:Hp) (v:V) (x y:Int):Prop:=∃ p,v=.ref p/\bt K H p [.int x,.int y]
inductive iE (K:PySem.W.Frag) (vs:List V) (H:Hp) (Q:VK):Prop where
 | mk (t l:Addr) (mo tu:Int) (h0_:vs=[.ref t,.int mo,.int tu]) (h1_:d9 H t l) (h2_:0≤mo) (h3_:mo≤20) (h4_:1≤tu) (h5_:tu≤24) (h6_:∀ (v:V) (ws:List Wk) (H':Hp),iy [t] H H'->d9 H' t l->eD K H' v ws->(ws.length:Int)≤mo->(∀ w∈ws,Mr w)->Q v H'):iE K vs H Q
def Bs (K:PySem.W.Frag):Sp:=fun vs H Q _=>iE K vs H Q
abbrev DZ:Nat:=84 * 5354228880 ^ 24 * 410555180440430163438262940577600
abbrev NB:Nat:=1000000000000
abbrev DQ:Nat:=DZ ^ 4
theorem w4 {r:R} (h:Bq DQ 100000000000000000000 r):Wf 3640 r:=h.wf (by decide) (by decide) (by decide)
def r0:R:=(0,1)
inductive mH (K:PySem.W.Frag) (vs:List V) (H:Hp) (Q:VK):Prop where
 | mk (v:V) (r:R) (k:Int) (n:Nat) (h0_:vs=[v,.int k]) (h1_:RV K H v r) (h2_:Wf n r) (h3_:n≤1000) (h4_:0≤k) (h5_:k≤4) (h6_:Hl K H Q (so r k.toNat)):mH K vs H Q
def GU (K:PySem.W.Frag):Sp:=fun vs H Q _=>mH K vs H Q
theorem CF {X:Cx} {K:PySem.W.Frag} (hK:X.K=K):uZ X (Km K):=hK ▸ Gg
theorem BI {K:PySem.W.Frag} {H:Hp} {Q:VK} {a:Addr} {xs:List V} {i:Int} {x:V} (h:GF K H a xs) (e:rF xs i=some x) (q:Q x H):Km K (.ref a) (.int i) H Q:=by
 rcases h with h | h
 ·exact .inl ⟨a,xs,i,x,rfl,rfl,h,e,q⟩
 ·exact .inr (.inl ⟨a,xs,i,x,rfl,rfl,h,e,q⟩)
theorem GF.tst {K:PySem.W.Frag} {H H':Hp} {a:Addr} {xs:List V} (s:aB H H') (h:GF K H a xs):GF K H' a xs:=h.imp (fun z=>s.seq z) (fun z=>aN.same s _ _ z)
structure DU (ws:List Wk) (pl:List (List Pc)):Prop where
 len:pl.length=24
 few:∀ q∈pl,q.length≤20
 row:∀ q∈pl,∀ c∈q,c.1 < ws.length/\Bq DZ 256 c.2/\0 < val c.2
 win:∀ i,i < ws.length->∀ u,u < 24->mS pl i u≠0->(ws.getD i bC).1≤u/\u≤(ws.getD i bC).2.1
 fin:∀ i,i < ws.length->sr (mS pl i) 24=gE (ws.getD i bC)
def MW (pl:List (List Pc)) (u:Nat):Rat:=sQ (fun c:Pc=>val c.2) (pl.getD u [])
section
variable {ws:List Wk} {pl kp:List (List Pc)} {t:Nat}
end
section
variable {n t k:Nat} {d:Nat->Nat} {a a' b b' w:Nat->Rat} {s s':Nat->Rat}
end
structure NA (ws:List Wk) (kp:List (List Pc)):Prop where
 ok:DU ws kp
 at_:∀ u,u≤24->GJ ws kp u
 tf:∀ u,u < 24->K0 ws kp u
section
variable {ws:List Wk} {pl kp:List (List Pc)} {k:Nat}
def K3 (ws:List Wk) (kp:List (List Pc)) (t:Nat) (s:Nat->Rat):Prop:=t < 24->Oa t (mB ws.length (fun i=>(ws.getD i bC).2.1) (aV ws kp t)) s
def Mc (k:Nat) (ws:List Wk) (kp pl:List (List Pc)) (S:Nat->Nat->Rat) (t:Nat):Rat:=LX k ws.length (fun i=>(ws.getD i bC).2.1) (S t) (aV ws kp t) (aV ws pl t)
end
inductive eJ (K:PySem.W.Frag) (vs:List V) (H:Hp) (Q:VK):Prop where
 | mk (p:Addr) (xs:List V) (pl:List (List Pc)) (h0_:vs=[.ref p]) (h1_:bt K H p xs) (h2_:cn (rp K H) xs pl) (h3_:pl.length≤24) (h4_:(∀ q∈pl,q.length≤20)) (h5_:∀ (l:Addr) (ys:List V) (H':Hp),aB H H'->H l=none->H' l=some (.lst ys)->cn (wW K H') ys pl.flatten->Q (.ref l) H'):eJ K vs H Q
def rO (K:PySem.W.Frag):Sp:=fun vs H Q _=>eJ K vs H Q
inductive hG (K:PySem.W.Frag) (vs:List V) (H:Hp) (Q:VK):Prop where
 | mk (v u:V) (ws:List Wk) (pl:List (List Pc)) (t:Nat) (h0_:vs=[v,u,.int (t:Nat)]) (h1_:eD K H v ws) (h2_:wK ws) (h3_:A7 K H u pl) (h4_:DU ws pl) (h5_:t≤24) (h6_:∀ (l:Addr) (ys:List V) (H':Hp),aB H H'->H' l=some (.lst ys)->cn (RV K H') ys (qS ws pl t)->Q (.ref l) H'):hG K vs H Q
def AX (K:PySem.W.Frag):Sp:=fun vs H Q _=>hG K vs H Q
def N6 (ws:List Wk) (t:Nat):List R:=ws.map fun w=>if w.1 < t then w.2.2 else (0,1)
def Nc (k:Int):Int:=if k=2 then 4 else if k=3 then 27 else 256
def JE (k:Nat) (ws:List Wk) (kp pl:List (List Pc)) (t:Nat) (r:R):Prop:=Bq DQ NB r/\∃ s,K3 ws kp t s/\val r=LX k ws.length (fun i=>(ws.getD i bC).2.1) s (aV ws kp t) (aV ws pl t)
def pR (kk:Int) (sp o p:R):R:=dH (so sp (kk - 1).toNat) (bu o (dH (kk,1) p))
def NY (kk:Int) (ws:List Wk) (kp pl:List (List Pc)) (t:Nat) (ss:List R) (n:Nat):List R:=(List.range n).map fun i=>pR kk (ss.getD (ws.getD i bC).2.1 (0,1)) ((qS ws kp t).getD i (0,1)) ((qS ws pl t).getD i (0,1))
inductive hZ (K:PySem.W.Frag) (vs:List V) (H:Hp) (Q:VK):Prop where
 | mk (v u x:V) (kk:Int) (ws:List Wk) (kp pl:List (List Pc)) (t:Nat) (h0_:vs=[v,.int kk,u,x,.int (t:Nat)]) (h1_:eD K H v ws) (h2_:wK ws) (h3_:2≤kk) (h4_:kk≤4) (h5_:A7 K H u kp) (h6_:NA ws kp) (h7_:A7 K H x pl) (h8_:DU ws pl) (h9_:t≤24) (h10_:∀ (y:V) (r:R) (H':Hp),aB H H'->RV K H' y r->JE kk.toNat ws kp pl t r->Q y H'):hZ K vs H Q
def A1 (K:PySem.W.Frag):Sp:=fun vs H Q _=>hZ K vs H Q
def Lk (K:PySem.W.Frag) (k:Nat) (ws:List Wk) (kp pl:List (List Pc)) (H:Hp) (v:V) (t:Nat):Prop:=∃ r,RV K H v r/\JE k ws kp pl t r
inductive rD (K:PySem.W.Frag) (vs:List V) (H:Hp) (Q:VK):Prop where
 | mk (v x:V) (kk:Int) (ws:List Wk) (pl:List (List Pc)) (h0_:vs=[v,.int kk,x]) (h1_:eD K H v ws) (h2_:wK ws) (h3_:2≤kk) (h4_:kk≤4) (h5_:A7 K H x pl) (h6_:DU ws pl) (h7_:∀ (p:Addr) (ys:List V) (s:dW) (H':Hp),aB H H'->G6 ws 24 s->bt K H' p ys->cn (Lk K kk.toNat ws (s.dn.map (bY (JZ ws 24))) pl H') ys (List.range 25)->Q (.ref p) H'):rD K vs H Q
def JP (K:PySem.W.Frag):Sp:=fun vs H Q _=>rD K vs H Q
structure Bl (k:Int) (os ps ts:List R):Prop where
 k2:2≤k
 k4:k≤4
 lo:os.length=24
 lp:ps.length=24
 lt:ts.length=25
 wo:∀ r∈os,Bq DZ 5120 r
 wp:∀ r∈ps,Bq DZ 5120 r
 wt:∀ r∈ts,Bq DQ NB r
 b:val (ts.getD 0 r0)=0
 e:val (ts.getD 24 r0)=0
 step:∀ i,i < 24->val (os.getD i r0) ^ k.toNat+(val (ts.getD (i+1) r0) - val (ts.getD i r0))≤(Nc k:Rat) * val (ps.getD i r0) ^ k.toNat
section
variable {k:Int} {o p a b:R}
def LZ (k:Int) (o a b:R):R:=bM (so o k.toNat) (bu b a)
end
inductive iD (K:PySem.W.Frag) (vs:List V) (H:Hp) (Q:VK):Prop where
 | mk (k:Int) (a b c:V) (os ps ts:List R) (h0_:vs=[.int k,a,b,c]) (h1_:AU K H a os) (h2_:AU K H b ps) (h3_:AU K H c ts) (h4_:Bl k os ps ts) (h5_:∀ H',aB H H'->Q (.bl true) H'):iD K vs H Q
def Br (K:PySem.W.Frag):Sp:=fun vs H Q _=>iD K vs H Q
theorem xz {rs:List R} {i:Nat} {r:R} (h:rs[i]?=some r):eW (rs.take (i+1))=bM (eW (rs.take i)) r:=by
 unfold eW
 rw [List.take_add_one,h,List.foldl_append]
 rfl
inductive jD (K:PySem.W.Frag) (vs:List V) (H:Hp) (Q:VK):Prop where
 | mk (v w:V) (r q:R) (n m:Nat) (h0_:vs=[v,w]) (h1_:RV K H v r) (h2_:RV K H w q) (h3_:Wf n r) (h4_:Wf m q) (h5_:n+m+1≤8900) (h6_:mY H Q (bM r q)):jD K vs H Q
def qq (K:PySem.W.Frag):Sp:=fun vs H Q _=>jD K vs H Q
inductive iJ (K:PySem.W.Frag) (vs:List V) (H:Hp) (Q:VK):Prop where
 | mk (v w:V) (r q:R) (n m:Nat) (h0_:vs=[v,w]) (h1_:RV K H v r) (h2_:RV K H w q) (h3_:Wf n r) (h4_:Wf m q) (h5_:n+m+1≤8900) (h6_:mY H Q (bu r q)):iJ K vs H Q
def Bw (K:PySem.W.Frag):Sp:=fun vs H Q _=>iJ K vs H Q
inductive iG (K:PySem.W.Frag) (vs:List V) (H:Hp) (Q:VK):Prop where
 | mk (v w:V) (r q:R) (n m:Nat) (h0_:vs=[v,w]) (h1_:RV K H v r) (h2_:RV K H w q) (h3_:Wf n r) (h4_:Wf m q) (h5_:n+m+1≤8900) (h6_:mY H Q (dH r q)):iG K vs H Q
def Bt (K:PySem.W.Frag):Sp:=fun vs H Q _=>iG K vs H Q
abbrev lC:=lF
inductive hV (K:PySem.W.Frag) (vs:List V) (H:Hp) (Q:VK):Prop where
 | mk (v:V) (r:R) (k:Int) (n:Nat) (h0_:vs=[v,.int k]) (h1_:RV K H v r) (h2_:Wf n r) (h3_:n≤1000) (h4_:0≤k) (h5_:k≤4) (h6_:Hl K H Q (so r k.toNat)):hV K vs H Q
def AZ (K:PySem.W.Frag):Sp:=fun vs H Q _=>hV K vs H Q
inductive iF (K:PySem.W.Frag) (vs:List V) (H:Hp) (Q:VK):Prop where
 | mk (a:Addr) (xs:List V) (rs:List R) (h0_:vs=[.ref a]) (h1_:aU K H a xs) (h2_:cn (RV K H) xs rs) (h3_:(∀ r∈rs,Bq DQ 1000000000000000 r)) (h4_:rs.length≤24) (h5_:∀ (v':V) (H':Hp),aB H H'->RV K H' v' (eW rs)->Q v' H'):iF K vs H Q
def oC (K:PySem.W.Frag):Sp:=fun vs H Q _=>iF K vs H Q
def Dv (pl:List (List Pc)):List R:=pl.map fun q=>eW (q.map fun c=>c.2)
inductive fw (K:PySem.W.Frag) (vs:List V) (H:Hp) (Q:VK):Prop where
 | mk (v:V) (ws:List Wk) (pl:List (List Pc)) (h0_:vs=[v]) (h1_:A7 K H v pl) (h2_:DU ws pl) (h3_:∀ (v':V) (H':Hp),aB H H'->AU K H' v' (Dv pl)->Q v' H'):fw K vs H Q
def vD (K:PySem.W.Frag):Sp:=fun vs H Q _=>fw K vs H Q
inductive iI (K:PySem.W.Frag) (vs:List V) (H:Hp) (Q:VK):Prop where
 | mk (k:Int) (v:V) (rs:List R) (h0_:vs=[.int k,v]) (h1_:AU K H v rs) (h2_:(∀ r∈rs,Bq DZ 5120 r)) (h3_:rs.length=24) (h4_:2≤k) (h5_:k≤4) (h6_:∀ (v':V) (H':Hp),aB H H'->RV K H' v' (eW (rs.map fun r=>so r k.toNat))->Q v' H'):iI K vs H Q
def Bv (K:PySem.W.Frag):Sp:=fun vs H Q _=>iI K vs H Q
inductive fT (K:PySem.W.Frag) (vs:List V) (H:Hp) (Q:VK):Prop where
 | mk (v:V) (r:R) (n:Nat) (h0_:vs=[v]) (h1_:RV K H v r) (h2_:Wf n r) (h3_:n≤8900) (h4_:∀ H',aB H H'->Q (.bl true) H'):fT K vs H Q
def wQ (K:PySem.W.Frag):Sp:=fun vs H Q _=>fT K vs H Q
inductive hX (K:PySem.W.Frag) (vs:List V) (H:Hp) (Q:VK):Prop where
 | mk (k:Int) (a b c:V) (os ps ts:List R) (h0_:vs=[.int k,a,b,c]) (h1_:AU K H a os) (h2_:AU K H b ps) (h3_:AU K H c ts) (h4_:Bl k os ps ts) (h5_:∀ H',aB H H'->Q .non H'):hX K vs H Q
def A0 (K:PySem.W.Frag):Sp:=fun vs H Q _=>hX K vs H Q
structure NN (ws:List Wk) (n:Nat) (pl:List (List Pc)):Prop where
 len:pl.length=24
 row:∀ (u:Nat) (q:List Pc),pl[u]?=some q->q.length≤n/\∀ c∈q,c.1 < n/\(ws.getD c.1 bC).1≤u/\u≤(ws.getD c.1 bC).2.1/\Bq DZ 256 c.2/\0 < val c.2
 fin:∀ i,i < n->sr (mS pl i) 24=gE (ws.getD i bC)
structure NM (ws:List Wk) (n k:Nat) (ns:List Int) (S:Int) (pl:List (List Pc)):Prop where
 len:pl.length=24
 row:∀ (u:Nat) (q:List Pc),pl[u]?=some q->q.length≤n+(if (ws.getD n bC).1≤u/\u < (ws.getD n bC).1+k then 1 else 0)/\∀ c∈q,c.1 < n+1/\(ws.getD c.1 bC).1≤u/\u≤(ws.getD c.1 bC).2.1/\Bq DZ 256 c.2/\0 < val c.2
 fin:∀ i,i < n->sr (mS pl i) 24=gE (ws.getD i bC)
 now:sr (mS pl n) 24 * (S:Rat)=gE (ws.getD n bC) * (((ns.take k).sum:Int):Rat)
structure Om (K:PySem.W.Frag) (H:Hp) (D:Addr) (rows:List Addr) (pl:List (List Pc)):Prop where
 top:H D=some (.lst (rows.map V.ref))
 len:rows.length=24
 nd:rows.Nodup
 nD:D∉rows
 row:∀ (i:Nat) (r:Addr) (c:List Pc),rows[i]?=some r->pl[i]?=some c->∃ xs,H r=some (.lst xs)/\cn (wW K H) xs c
section
variable {K:PySem.W.Frag} {H H':Hp} {D t:Addr} {rows:List Addr} {pl:List (List Pc)}
end
inductive fU (K:PySem.W.Frag) (vs:List V) (H:Hp) (Q:VK):Prop where
 | mk (t l:Addr) (v:V) (ws:List Wk) (h0_:vs=[.ref t,v]) (h1_:d9 H t l) (h2_:eD K H v ws) (h3_:wK ws) (h4_:∀ (v':V) (pl:List (List Pc)) (H':Hp),iy [t] H H'->d9 H' t l->A7 K H' v' pl->DU ws pl->Q v' H'):fU K vs H Q
def wR (K:PySem.W.Frag):Sp:=fun vs H Q _=>fU K vs H Q
theorem fI {K:PySem.W.Frag} {H H':Hp} {t l:Addr} (a:d9 H t l) (s:iy [t] H H') (b:d9 H' t l):aN K H H':=by
 obtain⟨ys,e⟩:=a.lst
 exact aN.steps e (fun x o n q=>s x o (fun z=>n (List.mem_singleton.mp z)) q) b.lst
def Oh (K:PySem.W.Frag) (ws:List Wk) (H:Hp) (v:V):Prop:=∃ pl,A7 K H v pl/\DU ws pl
inductive iH (K:PySem.W.Frag) (vs:List V) (H:Hp) (Q:VK):Prop where
 | mk (v u x:V) (kk:Int) (ws:List Wk) (pl:List (List Pc)) (s:dW) (h0_:vs=[v,.int kk,u,x]) (h1_:eD K H v ws) (h2_:wK ws) (h3_:2≤kk) (h4_:kk≤4) (h5_:G6 ws 24 s) (h6_:AU K H u (Dv (s.dn.map (bY (JZ ws 24))))) (h7_:A7 K H x pl) (h8_:DU ws pl) (h9_:∀ H',aB H H'->Q (.bl true) H'):iH K vs H Q
def Bu (K:PySem.W.Frag):Sp:=fun vs H Q _=>iH K vs H Q
def wS (s:dW) (i:Nat):Nat:=(s.kn.getD i bC).2.1
def A5 (s:dW) (i:Nat):Rat:=val (s.rs.getD i (0,1))
def Pf (s:dW) (f:Nat->Rat):Prop:=Oa s.tn (mB s.kn.length (wS s) (A5 s)) f
theorem nS {n:Nat} {d d':Nat->Nat} {c c':Nat->Rat} (h:∀ i,i < n->d i=d' i/\c i=c' i):mB n d c=mB n d' c':=by
 funext u
 exact aM fun i hi=>by rw [(h i hi).1,(h i hi).2]
theorem p6 {s:dW} (o:kO s):∀ w∈bc s.kn s.rs s.tn,bF w:=fun w hw=>by
 by_cases c:s.tn < 24
 ·exact (h9 o c w hw).1
 ·obtain⟨i,hi,rfl⟩:=List.mem_map.mp hw
  obtain⟨h1,h2⟩:=d5.mp hi
  have hk:i < s.kn.length:=by rw [← o.len];exact h1
  have l:=o.due i hk h2
  have k:=(o.kn (s.kn.getD i bC) (by rw [av bC (List.getElem?_eq_getElem hk)];exact List.getElem_mem hk)).2.1
  omega
section
variable {s:dW} {lys:List Ly}
theorem sg {n k:Nat} (h:k < n):(List.range n).getD k 0=k:=av 0 (List.getElem?_range h)
theorem xS (o:kO s):∀ j,j < (bc s.kn s.rs s.tn).length->(List.range s.rs.length).getD ((aF s.rs).getD j 0) 0 < s.kn.length/\wS s ((List.range s.rs.length).getD ((aF s.rs).getD j 0) 0)=((bc s.kn s.rs s.tn).getD j bC).2.1:=fun j hj=>by
 rw [cX] at hj
 have e:(aF s.rs).getD j 0=(aF s.rs)[j]:=av 0 (List.getElem?_eq_getElem hj)
 have m:=(d5.mp (List.getElem_mem hj)).1
 rw [e,sg m]
 exact⟨by rw [← o.len];exact m,by rw [kA hj];rfl⟩
theorem uu (o:kO s) {i:Nat} (hi:i < s.kn.length):push (bc s.kn s.rs s.tn).length (fun j=>(List.range s.rs.length).getD ((aF s.rs).getD j 0) 0) (fun j=>gE ((bc s.kn s.rs s.tn).getD j bC)) i=A5 s i:=by
 have hi':i < (List.range s.rs.length).length:=by rw [List.length_range,o.len];exact hi
 have e:=Ba (kn:=s.kn) (t:=s.tn) (rs:=s.rs) (List.length_range (n:=s.rs.length)) List.nodup_range hi'
 rw [sg (by rw [o.len];exact hi)] at e
 exact e
theorem uw (o:kO s) (ht:s.tn < 24) (L:gY (bc s.kn s.rs s.tn) (List.range 24) lys):Pf s (kr (bc s.kn s.rs s.tn) lys):=by
 have wok:=h9 o ht
 have w20:(bc s.kn s.rs s.tn).length≤20:=by
  have:=gh s.rs
  have:=o.len
  have:=o.few
  rw [cX];omega
 have O:=L1 (fun w hw=>(wok w hw).1) (fun w hw=>(wok w hw).2.1) ht w20 L
 rw [← o7 (d:=wS s) (xS o),nS (d':=wS s) (c':=A5 s) fun i hi=>⟨rfl,uu o hi⟩] at O
 exact O
theorem DM (o:kO s) (ht:s.tn < 24) {q0:List Pc} (G:Hc s q0) {f:Nat->Rat} (P:Pf s f):Oa (s.tn+1) (mB s.kn.length (wS s) (A5 (Gq s (bY (aF s.rs) q0)))) (fun u=>if u≤s.tn then 0 else f u)/\sQ (fun c:Pc=>val c.2) (bY (aF s.rs) q0)=f s.tn:=by
 obtain⟨lys,L,eq⟩:=G.ex
 have wok:=h9 o ht
 have ok:=fun w hw=>(wok w hw).1
 have w20:(bc s.kn s.rs s.tn).length≤20:=by
  have:=gh s.rs
  have:=o.len
  have:=o.few
  rw [cX];omega
 obtain rfl:f=kr (bc s.kn s.rs s.tn) lys:=Oa.uniq P (uw o ht L) ht
 have F:=uN ok (fun w hw=>(wok w hw).2.1) w20 L
 have O:=L1 ok (fun w hw=>(wok w hw).2.1) ht w20 L
 have T:=Bf (d:=wS s) (xS o) O F ht fun j hj=>by
  rw [av bC (List.getElem?_eq_getElem hj)]
  exact (ok _ (List.getElem_mem hj)).lt
 have nx:=T.nx
 refine⟨?_,?_⟩
 ·rw [nS (d':=wS s) (c':=A5 (Gq s (bY (aF s.rs) q0))) fun i hi=>⟨rfl,?_⟩] at nx
  ·exact nx
  ·have hi':i < s.rs.length:=by rw [o.len];exact hi
   have bd:=(xD (D:=DK 24) (tS 24) (q:=bY (aF s.rs) q0) (rs:=s.rs) (fun c hc=>n6 ((G.pc c hc).2.bq)) (fun r hr=>n6 ((o.am r hr).1.mono (ve o.t24) (Nat.le_refl _)))).2 i hi'
   show _=val ((eX s.rs (bY (aF s.rs) q0)).getD i (0,1))
   rw [bd,uu o hi]
   show val (s.rs.getD i (0,1)) - _=_
   congr 1
   unfold bY
   rw [i5]
   have b:=yR (f:=fun c:Pc=>val c.2) (m:=(bc s.kn s.rs s.tn).length) (fun j=>if (List.range s.rs.length).getD ((aF s.rs).getD j 0) 0=i then 1 else 0) (q:=q0) fun c hc=>by rw [cX];exact G.lt c hc
   rw [aE (g:=fun c:Pc=>(if (List.range s.rs.length).getD ((aF s.rs).getD c.1 0) 0=i then (1:Rat) else 0) * val c.2) fun c hc=>by
    have e:(aF s.rs).getD c.1 0=(aF s.rs)[c.1]'(G.lt c hc):=av 0 (List.getElem?_eq_getElem (G.lt c hc))
    have m:=(d5.mp (List.getElem_mem (G.lt c hc))).1
    rw [e,sg m]
    show bD (decide ((aF s.rs)[c.1]'(G.lt c hc)=i)) (val c.2)=_
    by_cases z:(aF s.rs)[c.1]'(G.lt c hc)=i
    ·rw [decide_eq_true z,cm,if_pos z];grind
    ·rw [decide_eq_false z,bJ,if_neg z];grind,b]
   unfold push
   refine aM fun j _=>?_
   have e2:mS (c5 (bc s.kn s.rs s.tn) (aP (bc s.kn s.rs s.tn) lys)).2 j s.tn=sQ (fun c:Pc=>bD (decide (c.1=j)) (val c.2)) q0:=by
    unfold mS
    rw [eq]
   try dsimp only
   rw [e2]
   by_cases z:(List.range s.rs.length).getD ((aF s.rs).getD j 0) 0=i
   ·rw [if_pos z,if_pos z];grind
   ·rw [if_neg z,if_neg z];grind
 ·unfold bY
  rw [i5]
  show sQ (fun c:Pc=>val c.2) q0=_
  have r:=rf ok w20 L ht
  rw [← eq] at r
  rw [r]
  exact (if_pos ht).symm
theorem CY {l:Nat} {r:R} (o:kO s) {f f':Nat->Rat} (P:Pf s f) (P':Pf (fg s l r) f') (r0:0≤val r) (u:Nat):f u≤f' u:=by
 have e:∀ u,mB (fg s l r).kn.length (wS (fg s l r)) (A5 (fg s l r)) u=mB s.kn.length (wS s) (A5 s) u+if l≤u then val r else 0:=fun u=>by
  have ln:(fg s l r).kn.length=s.kn.length+1:=by
   show (s.kn++[_]).length=_
   rw [List.length_append];rfl
  unfold mB
  rw [ln]
  show sr _ s.kn.length+_=_
  congr 1
  ·refine aM fun i hi=>?_
   have a:wS (fg s l r) i=wS s i:=by
    show ((s.kn++[(s.tn,l,r)]).getD i bC).2.1=(s.kn.getD i bC).2.1
    rw [List.getD_eq_getElem?_getD,List.getElem?_append_left hi,← List.getD_eq_getElem?_getD]
   have b:A5 (fg s l r) i=A5 s i:=by
    show val ((s.rs++[r]).getD i (0,1))=val (s.rs.getD i (0,1))
    rw [List.getD_eq_getElem?_getD,List.getElem?_append_left (by rw [o.len];exact hi),← List.getD_eq_getElem?_getD]
   try dsimp only
   rw [a,b]
  ·have a:wS (fg s l r) s.kn.length=l:=by
    show ((s.kn++[(s.tn,l,r)]).getD s.kn.length bC).2.1=l
    rw [List.getD_eq_getElem?_getD,List.getElem?_append_right (Nat.le_refl _),Nat.sub_self]
    rfl
   have b:A5 (fg s l r) s.kn.length=val r:=by
    show val ((s.rs++[r]).getD s.kn.length (0,1))=val r
    rw [List.getD_eq_getElem?_getD,← o.len,List.getElem?_append_right (Nat.le_refl _),Nat.sub_self]
    rfl
   try dsimp only
   rw [a,b]
 refine Oa.up P P' (fun u v h _=>?_) (fun u _=>?_) u
 ·rw [e,e]
  by_cases c:l≤u
  ·rw [if_pos c,if_pos (by omega)];grind
  ·rw [if_neg c]
   split
   ·grind
   ·grind
 ·rw [e]
  split
  ·grind
  ·grind
end
def wU (s:dW) (rs:List R):Prop:=(∀ r∈rs,eM r)/\rs.length=24 - s.tn/\∃ f,(s.tn < 24->Pf s f)/\∀ k,k < rs.length->val (rs.getD k (0,1))=f (s.tn+k)
theorem Fc {s:dW} (o:kO s) {lys:List Ly} (L:gY (bc s.kn s.rs s.tn) (List.range 24) lys):wU s ((aP (bc s.kn s.rs s.tn) lys).drop s.tn):=by
 have ok:=p6 o
 have w20:(bc s.kn s.rs s.tn).length≤20:=by
  have:=gh s.rs
  have:=o.len
  have:=o.few
  rw [cX];omega
 have am:=lj ok w20 (l9 L (by rw [List.length_range];exact Nat.le_refl _) fun t ht=>List.mem_range.mp ht)
 have ln:(aP (bc s.kn s.rs s.tn) lys).length=24:=by
  unfold aP
  rw [ib]
  rfl
 refine⟨fun r hr=>am r (List.mem_of_mem_drop hr),by rw [List.length_drop,ln],kr (bc s.kn s.rs s.tn) lys,fun ht=>uw o ht L,fun k hk=>?_⟩
 rw [List.length_drop,ln] at hk
 rw [List.getD_eq_getElem?_getD,List.getElem?_drop,← List.getD_eq_getElem?_getD,jg L (by omega)]
 exact (if_pos (by omega)).symm
section
variable {s:dW} {rs rs':List R}
theorem wU.falls (h:wU s rs) {k:Nat} (hk:k+1 < rs.length):cS (rs.getD k (0,1)) (rs.getD (k+1) (0,1))=false:=by
 obtain⟨am,ln,f,pf,e⟩:=h
 have m1:=am _ (cN (show k < rs.length by omega))
 have m2:=am _ (cN hk)
 refine (ia m1.bq.pos m2.bq.pos).mpr ?_
 rw [e k (by omega),e (k+1) hk]
 exact (pf (by omega)).dec (s.tn+k) (by omega)
theorem wU.up (h:wU s rs) {l:Nat} {r:R} (o:kO s) (h':wU (fg s l r) rs') (r0:0≤val r) {k:Nat} (hk:k < rs.length):cS (rs'.getD k (0,1)) (rs.getD k (0,1))=false:=by
 obtain⟨am,ln,f,pf,e⟩:=h
 obtain⟨am',ln',f',pf',e'⟩:=h'
 have et:(fg s l r).tn=s.tn:=rfl
 rw [et] at ln' e' pf'
 have m1:=am _ (cN hk)
 have m2:=am' _ (cN (show k < rs'.length by omega))
 refine (ia m2.bq.pos m1.bq.pos).mpr ?_
 rw [e k hk,e' k (by omega)]
 exact CY o (pf (by omega)) (pf' (by omega)) r0 _
theorem wU.go (h:wU s rs) (o:kO s) (ht:s.tn < 24) {q0:List Pc} (G:Hc s q0) (h':wU (Gq s (bY (aF s.rs) q0)) rs'):rs'=rs.drop 1/\sQ (fun c:Pc=>val c.2) (bY (aF s.rs) q0)=val (rs.getD 0 (0,1)):=by
 obtain⟨am,ln,f,pf,e⟩:=h
 obtain⟨am',ln',f',pf',e'⟩:=h'
 have et:(Gq s (bY (aF s.rs) q0)).tn=s.tn+1:=rfl
 rw [et] at ln' e' pf'
 obtain⟨O,su⟩:=DM o ht G (pf ht)
 refine⟨?_,by rw [su,e 0 (by omega)];rfl⟩
 refine List.ext_getElem (by rw [List.length_drop];omega) fun k h1 h2=>?_
 have hd:k+1 < rs.length:=by rw [List.length_drop] at h2;omega
 have m1:=am _ (cN hd)
 have m2:=am' _ (cN h1)
 have a:=e (k+1) hd
 have b:=e' k h1
 have c:f'=fun u=>if u≤s.tn then 0 else f u:=Oa.uniq (pf' (by omega)) O (by omega)
 have v:rs'.getD k (0,1)=rs.getD (k+1) (0,1):=eN m2.bq.red m1.bq.red (by
  rw [a,b,c,show s.tn+1+k=s.tn+(k+1) by omega]
  exact if_neg (by omega))
 rw [av (0,1) (List.getElem?_eq_getElem h1),av (0,1) (List.getElem?_eq_getElem hd)] at v
 rw [v,List.getElem_drop]
 congr 1
 omega
theorem wU.sum (h:wU s rs) (o:kO s) (ht:s.tn < 24) {q0:List Pc} (G:Hc s q0):eW ((bY (aF s.rs) q0).map fun c:Pc=>c.2)=rs.getD 0 (0,1):=by
 obtain⟨am,ln,f,pf,e⟩:=h
 obtain⟨_,su⟩:=DM o ht G (pf ht)
 have a:=am _ (cN (show 0 < rs.length by omega))
 have v:=kB (rs:=(bY (aF s.rs) q0).map fun c:Pc=>c.2) fun r hr=>by
  obtain⟨c,hc,rfl⟩:=List.mem_map.mp hr
  exact (G.pc c hc).2.bq.red
 refine eN v.1 a.bq.red ?_
 rw [v.2,ou,i5,su,e 0 (by omega)]
 rfl
end
theorem CZ {s:dW} (o:kO s) {l:Nat} {r:R} {dv du:PyData} (c:mD s dv du=true) (e1:dv=.int (l:Nat)) (e2:du=dR r) (am:Bq 84 12 r):kO (fg s l r):=by
 subst e1
 subst e2
 unfold mD at c
 rw [Bool.and_eq_true,decide_eq_true_iff] at c
 obtain⟨l',r',q1,q2,h1,h2,h3,h4⟩:=uO c.1
 have:l'=l:=by injection q1 with z;omega
 subst this
 have er:r'=r:=by
  have z:PyData.tuple [.int r.1,.int r.2]=PyData.tuple [.int r'.1,.int r'.2]:=q2
  injection z with z
  injection z with z1 z
  injection z with z2 _
  injection z1 with z1
  injection z2 with z2
  exact (Prod.ext z1 z2).symm
 subst er
 have len:=o.len
 have few:=o.few
 refine⟨o.t24,?_,?_,o.dl,?_,?_,?_,o.pcs⟩
 ·show (s.rs++[r']).length=(s.kn++[(s.tn,l',r')]).length
  rw [List.length_append,List.length_append,len]
  rfl
 ·show (s.kn++[(s.tn,l',r')]).length≤20
  rw [List.length_append,List.length_singleton]
  omega
 ·intro w hw
  rcases List.mem_append.mp (show w∈s.kn++[(s.tn,l',r')] from hw) with z | z
  ·exact o.kn w z
  ·rw [List.mem_singleton.mp z]
   exact⟨by show s.tn < 24;omega,h2,am,by show 0≤r'.1;omega⟩
 ·intro x hx
  rcases List.mem_append.mp (show x∈s.rs++[r'] from hx) with z | z
  ·exact o.am x z
  ·rw [List.mem_singleton.mp z]
   exact⟨am.mono (by unfold DK;exact Nat.dvd_mul_right _ _) (Nat.le_refl _),by omega⟩
 ·intro i hi nz
  have hi':i < (s.kn++[(s.tn,l',r')]).length:=hi
  have nz':(s.rs++[r']).getD i (0,1)≠(0,1):=nz
  show s.tn≤((s.kn++[(s.tn,l',r')]).getD i bC).2.1
  rw [List.length_append,List.length_singleton] at hi'
  by_cases c':i < s.kn.length
  ·rw [List.getD_eq_getElem?_getD,List.getElem?_append_left c',← List.getD_eq_getElem?_getD]
   rw [List.getD_eq_getElem?_getD,List.getElem?_append_left (by omega),← List.getD_eq_getElem?_getD] at nz'
   exact o.due i c' nz'
  ·have:i=s.kn.length:=by omega
   subst this
   rw [List.getD_eq_getElem?_getD,List.getElem?_append_right (Nat.le_refl _),Nat.sub_self]
   exact h1
def iA (s:dW) (n:Nat):List Wk:=((List.range n).filter fun i=>decide (s.rs.getD i (0,1)≠(0,1))).map fun i=>(s.tn,(s.kn.getD i bC).2.1,s.rs.getD i (0,1))
theorem vj (s:dW):iA s s.rs.length=bc s.kn s.rs s.tn:=rfl
theorem wZ {s:dW} {n:Nat} (h:s.rs.getD n (0,1)=(0,1)):iA s (n+1)=iA s n:=by
 unfold iA
 rw [List.range_succ,List.filter_append,List.filter_cons_of_neg (by rw [decide_eq_true_iff];exact fun z=>z h),List.filter_nil,List.append_nil]
theorem vh {s:dW} {n:Nat} (h:s.rs.getD n (0,1)≠(0,1)):iA s (n+1)=iA s n++[(s.tn,(s.kn.getD n bC).2.1,s.rs.getD n (0,1))]:=by
 unfold iA
 rw [List.range_succ,List.filter_append,List.filter_cons_of_pos (p:=fun i=>decide (s.rs.getD i (0,1)≠(0,1))) (decide_eq_true h),List.filter_nil,List.map_append]
 rfl
theorem vi (s:dW) (n:Nat):(iA s n).length≤n:=by
 unfold iA
 rw [List.length_map]
 exact Nat.le_trans (List.length_filter_le _ _) (by rw [List.length_range];exact Nat.le_refl _)
theorem GD {r:R} (h:iC r):r.1=0↔r=(0,1):=by
 constructor
 ·intro z
  exact eN h ⟨by decide,by decide⟩ (by rw [(dX h.pos).mpr z,(dX (r:=(0,1)) (by decide)).mpr rfl])
 ·intro z
  rw [z]
theorem C5 {r:R} (h:eM r):Wf 3640 r:=w4 (h.bq.mono (D':=DQ) (by decide) (by decide))
inductive gv (K:PySem.W.Frag) (C:Addr) (vs:List V) (H:Hp) (Q:VK):Prop where
 | mk (a lk lr ld:Addr) (s:dW) (h0_:vs=[.ref a]) (h1_:kg K C H a lk lr ld s) (h2_:kO s) (h3_:∀ (l:Addr) (xs:List V) (rs:List R) (H':Hp),aB H H'->H l=none->H' l=some (.lst xs)->cn (RV K H') xs rs->wU s rs->Q (.ref l) H'):gv K C vs H Q
def lB (K:PySem.W.Frag) (C:Addr):Sp:=fun vs H Q _=>gv K C vs H Q
inductive iL (K:PySem.W.Frag) (vs:List V) (H:Hp) (Q:VK):Prop where
 | mk (l:Addr) (xs:List V) (rs:List R) (h0_:vs=[.ref l]) (h1_:aU K H l xs) (h2_:cn (RV K H) xs rs) (h3_:(∀ r∈rs,eM r)) (h4_:rs.length≤24) (h5_:(∀ k,k+1 < rs.length->cS (rs.getD k (0,1)) (rs.getD (k+1) (0,1))=false)) (h6_:∀ H',aB H H'->Q (.bl true) H'):iL K vs H Q
def oE (K:PySem.W.Frag):Sp:=fun vs H Q _=>iL K vs H Q
inductive jC (K:PySem.W.Frag) (C:Addr) (vs:List V) (H:Hp) (Q:VK):Prop where
 | mk (t l a lk lr ld:Addr) (s:dW) (h0_:vs=[.ref t,.ref a]) (h1_:d9 H t l) (h2_:kg K C H a lk lr ld s) (h3_:kO s) (h4_:s.tn < 24) (h5_:t∉[a,lk,lr,ld]) (h6_:∀ (s':dW) (H':Hp),iy [t,a,lk,lr,ld] H H'->kg K C H' a lk lr ld s'->kO s'->Q (.bl true) H'):jC K C vs H Q
def qo (K:PySem.W.Frag) (C:Addr):Sp:=fun vs H Q _=>jC K C vs H Q
inductive va (K:PySem.W.Frag) (vs:List V) (H:Hp) (Q:VK):Prop where
 | mk (a:Addr) (ns:List Int) (h0_:vs=[.ref a]) (h1_:aU K H a (ns.map V.int)) (h2_:ns.length≤63) (h3_:∀ H',Q (.bl true) H'):va K vs H Q
def oG (K:PySem.W.Frag):Sp:=fun vs H Q _=>va K vs H Q
theorem Eo:aC ["thing"] ["thing"] (ax yu):=ef
theorem Ez:aC ["thing", "length"] ["thing", "length"] (ax yO):=ef
theorem HP:aC ["thing", "count"] ["thing", "count"] (ax EE):=ef
theorem ny:aC ["one", "other", "high", "low", "rest"] ["one", "other"] (ax EL):=ef
theorem rZ:aC ["thing", "top", "bottom"] ["thing"] (ax yt):=ef
theorem HR:aC ["thing"] ["thing"] (ax EK):=ef
theorem rV:aC ["top", "bottom", "shared"] ["top", "bottom"] (ax ye):=ef
theorem oO:aC ["one", "other", "shared", "top", "rest"] ["one", "other"] (ax xZ):=ef
theorem Ei:aC ["one", "other"] ["one", "other"] (ax yd):=ef
theorem rT:aC ["one", "other", "left", "right"] ["one", "other"] (ax yc):=ef
theorem Eh:aC ["one", "other"] ["one", "other"] (ax xY):=ef
theorem Ek:aC ["one", "other"] ["one", "other"] (ax yi):=ef
theorem Ej:aC ["one", "other"] ["one", "other"] (ax yg):=ef
theorem i3:aC ["some", "tops", "one", "so_far", "bottom", "top"] ["some"] (ax yb):=ef
theorem oR:aC ["some", "bottom", "one"] ["some"] (ax yN):=ef
theorem rW:aC ["thing", "first", "last"] ["thing"] (ax yh):=ef
theorem Er:aC ["work", "turn"] ["work", "turn"] (ax yC):=ef
theorem Ey:aC ["count"] ["count"] (ax yM):=ef
theorem En:aC ["leanings", "lean", "ahead", "behind", "numbers", "bases", "leaners", "leaner", "base"] ["leanings", "lean"] (ax yr):=ef
theorem xT:aC ["count", "leans", "leanings", "lean"] ["count", "leans"] (ax ED):=ef
theorem fB:aC ["sheet", "works", "leanings", "drawn", "number", "work", "firsts", "lasts", "first", "last"] ["sheet"] (ax yq):=ef
theorem uj:aC ["works", "left", "windows", "work", "places"] ["works", "left"] (ax EC):=ef
theorem Eg:aC ["windows", "begin", "end"] ["windows", "begin", "end"] (ax xX):=ef
theorem gL:aC ["windows", "amounts", "count", "best", "best_load", "best_length", "begin", "end", "load", "length"] ["windows", "amounts", "count"] (ax EJ):=ef
theorem rY:aC ["works", "left", "windows", "places"] ["works", "left"] (ax yo):=ef
theorem i4:aC ["works", "told", "left", "waiting", "layer"] ["works"] (ax yf):=ef
theorem HQ:aC ["works", "layer"] ["works", "layer"] (ax EI):=ef
theorem qC:aC ["works", "speeds", "layer", "speed", "turn"] ["works"] (ax EB):=ef
theorem uk:aC ["works", "leanings", "waiting", "earliest", "like", "free"] ["works", "leanings", "waiting"] (ax EH):=ef
theorem lO:aC ["works", "leans", "leanings", "waiting", "order", "number"] ["works", "leans"] (ax yn):=ef
theorem jS:aC ["works", "order", "left", "turn", "speed", "pieces", "room", "number", "amount"] ["works", "order", "left", "turn", "speed"] (ax yB):=ef
theorem iZ:aC ["works", "leans", "speeds", "order", "left", "plan", "turn", "number", "amount"] ["works", "leans", "speeds"] (ax ya):=ef
theorem xU:aC ["sheet", "works"] ["sheet"] (ax yF):=ef
theorem Dx:aC ["works", "amounts", "turn", "numbers"] ["works", "amounts", "turn"] (ax EG):=ef
theorem Et:aC ["pieces", "numbers"] ["pieces", "numbers"] (ax yE):=ef
theorem Ex:aC ["_law_script", "_law_k"] ["_law_script", "_law_k"] (ax yL):=ef
theorem gK:aC ["_law_cell", "_law_many", "_law_found", "_law_number", "_law_mixed", "_law_k"] ["_law_cell", "_law_many"] (ax yA):=ef
theorem Em:aC ["_law_tape", "_law_many"] ["_law_tape", "_law_many"] (ax ym):=ef
theorem rX:aC ["_law_top", "_law_bottom", "_law_one", "_law_other"] ["_law_top", "_law_bottom"] (ax yl):=ef
theorem El:aC ["_law_one", "_law_other"] ["_law_one", "_law_other"] (ax yk):=ef
theorem Ew:aC ["_law_one", "_law_other"] ["_law_one", "_law_other"] (ax yK):=ef
theorem oQ:aC ["_law_some", "_law_found", "_law_one"] ["_law_some"] (ax yz):=ef
theorem jT:aC ["_law_keeper", "_law_works", "_law_left", "_law_known", "_law_j", "_law_speeds"] ["_law_keeper"] (ax yJ):=ef
theorem Ep:aC ["_law_speeds"] ["_law_speeds"] (ax yy):=ef
theorem jR:aC ["_law_tape", "_law_keeper", "_law_before", "_law_last", "_law_later", "_law_lower", "_law_pieces"] ["_law_tape", "_law_keeper"] (ax yj):=ef
theorem oN:aC ["_law_script", "_law_keeper", "_law_k", "_law_tape"] ["_law_script"] (ax xW):=ef
theorem Ev:aC ["self"] ["self"] (ax yI):=ef
theorem xV:aC ["self", "last", "amount", "work"] ["self", "last", "amount"] (ax yH):=ef
theorem oP:aC ["self", "waiting", "pieces", "piece"] ["self"] (ax yx):=ef
theorem Es:aC ["self"] ["self"] (ax yD):=ef
theorem EA:aC ["self"] ["self"] (ax yP):=ef
theorem Eu:aC ["self"] ["self"] (ax yG):=ef
end My
namespace My
open PySem L2 B PyProof.Rows
section
variable {P:Program} {w:World} {K:PySem.W.Frag} {mg:Str->Option Value} {base:Heap} {t:Ad}
theorem sM (T:d8 K mg t):bo P w K mg base dE 1 t.a_Q29 t.d_Q29 ["thing"] (qw K):=by
 refine T.F_Q29.ok Eo (fun vs H Q E h=>?_) (fun cdv A outer s H vs Q E hr h=>?_)
 ·obtain⟨_,_,rfl,_⟩:=h;rfl
 obtain⟨v,d,rfl,hD,k⟩:=h
 obtain⟨b,c,e1,e2,e3⟩:=CH hD
 refine db.ok (ao (aI (jW (aQ j3 (by rfl) T.z_isinstance boot_isinstance (ae (qv 0) (ae (o5 (v:=V.ty "int") rfl T.z_int boot_int rfl) ah af) af)) (jV (EY (aQ j3 (by rfl) T.z_isinstance boot_isinstance (ae (qv 0) (ae (o5 (v:=V.ty "bool") rfl T.z_bool boot_bool rfl) ah af) af))))))) ?_
 extract_lets +lift
 try dsimp -zeta -zetaDelta only [Cx.nox,Cx.wish,bG]
 rw [e3] at k
 refine⟨_,rfl,_,_,_,_,rfl,hD,e1,_,rfl,?_⟩
 cases b with
 | false=>exact k
 | true=>exact⟨_,rfl,_,_,_,_,rfl,hD,e2,_,rfl,k⟩
theorem zV (T:d8 K mg t):bo P w K mg base dE 1 t.a_Q11 t.d_Q11 ["thing", "length"] (lE K):=by
 refine T.F_Q11.ok Ez (fun vs H Q E h=>?_) (fun cdv A outer s H vs Q E hr h=>?_)
 ·obtain⟨_,_,_,rfl,_⟩:=h;rfl
 obtain⟨v,d,m,rfl,hD,k⟩:=h
 refine db.ok (ao (aI (jW (aQ j3 (by rfl) T.z_isinstance boot_isinstance (ae (qv 0) (ae (o5 (v:=V.ty "tuple") rfl T.z_tuple boot_tuple rfl) ah af) af)) (jV (eQ nH (aQ aO (by rfl) T.z_len boot_len (ae (qv 0) ah af)) (qv 1) (bi _)))))) ?_
 extract_lets +lift
 try dsimp -zeta -zetaDelta only [Cx.nox,Cx.wish,bG]
 rcases CG hD with ⟨e,p,xs,ds,rfl,rfl,hS,hA⟩ | ⟨e,no⟩
 ·refine⟨_,rfl,_,_,_,_,rfl,hD,e,_,rfl,?_⟩
  refine⟨_,rfl,p,_,rfl,.inr hS,_,rfl,rfl,?_⟩
  have q:decide ((V.int xs.length:V)=.int m)=oy m (.tuple ds):=by
   show _=decide (ds.length=m)
   rw [hA.len]
   refine decide_eq_decide.mpr ⟨fun z=>by injection z with z;omega,fun z=>by rw [z]⟩
  rw [q]
  exact k
 ·refine⟨_,rfl,_,_,_,_,rfl,hD,e,_,rfl,?_⟩
  rw [Be no] at k
  exact k
theorem DF (T:d8 K mg t):bo P w K mg base dE 2 t.a_Q6 t.d_Q6 ["thing", "count"] (km K):=by
 refine T.F_Q6.ok HP (fun vs H Q E h=>?_) (fun cdv A outer s H vs Q E hr h=>?_)
 ·obtain⟨_,_,_,rfl,_⟩:=h;rfl
 obtain⟨v,d,m,rfl,hD,k⟩:=h
 refine db.ok (ao (aI (jW (cO (sM T) hr T.m_Q29 T.F_Q29.kp T.b_Q29 (ae (qv 0) ah af)) (jV (qH nG j7 aj (qv 0) (qv 1)))))) ?_
 extract_lets +lift
 try dsimp -zeta -zetaDelta only [Cx.nox,Cx.wish,bG]
 refine⟨_,rfl,v,d,rfl,hD,?_⟩
 cases c:f8 d with
 | false=>
  rw [Ct c] at k
  exact⟨_,rfl,k⟩
 | true=>
  obtain⟨i,rfl⟩:=iT c
  cases hD
  have kk:Q (.bl (decide (0≤i) && decide (i < m))) H:=k
  refine⟨_,rfl,?_⟩
  refine⟨_,rfl,_,_,rfl,rfl,_,rfl,?_⟩
  by_cases c1:0≤i
  ·refine d7 c1 ?_
   rw [decide_eq_true c1,Bool.true_and] at kk
   exact⟨_,rfl,_,_,rfl,rfl,kk⟩
  ·refine cT c1 ?_
   rw [decide_eq_false c1,Bool.false_and] at kk
   exact kk
theorem lW (T:d8 K mg t):bo P w K mg base dE 1 t.a_Q0 t.d_Q0 ["one", "other"] (iw K):=by
 refine T.F_Q0.ok ny (fun vs H Q E h=>?_) (fun cdv A outer s H vs Q E hr h=>?_)
 ·obtain⟨_,_,rfl,_⟩:=h;rfl
 obtain⟨a,b,rfl,k⟩:=h
 refine db.ok (ag (cE 2 ny.nd (aQ mE (by rfl) T.z_abs boot_abs (ae (qv 0) ah af)))
   (ag (cE 3 ny.nd (aQ mE (by rfl) T.z_abs boot_abs (ae (qv 1) ah af)))
   (ag (jj PassesOwn.never (bj IA (qv 3) aj (bi _))
   (ag (cE 4 ny.nd (aJ gO (qv 2) (qv 3)))
   (ag (cE 2 ny.nd (qv 3))
   (ao (cE 3 ny.nd (qv 4))))))
   (ao (aI (qv 2)))))) ?_
 extract_lets +lift
 try dsimp -zeta -zetaDelta only [Cx.nox,Cx.wish,bG]
 refine⟨_,rfl,_,rfl,_,rfl,_,rfl,?_⟩
 rw [tE,tE]
 refine⟨fun m σ H'=>∃ (x y:Int) (v:Option V),σ=[some (.int a),some (.int b),some (.int x),some (.int y),v]/\H'=H/\0≤x/\0≤y/\Int.gcd x y=Int.gcd a b/\m=y.toNat,⟨_,_,_,_,rfl,rfl,by omega,by omega,(by simp [Int.gcd]),rfl⟩,?_⟩
 rintro m σ H' ⟨x,y,v,rfl,rfl,hx,hy,hg,rfl⟩
 refine⟨_,rfl,rfl,_,rfl,?_⟩
 by_cases c:y=0
 ·subst c
  refine IR rfl ?_
  rw [← hg] at k
  refine⟨_,rfl,?_⟩
  have e:(x:Int)=(Int.gcd x 0:Nat):=by simp [Int.gcd];omega
  rw [← e] at k
  exact k
 ·refine IS (fun z=>c (by injection z)) ?_
  refine⟨_,fun _ _ z=>z,?_⟩
  refine⟨_,rfl,_,rfl,_,_,rfl,rfl,(by omega),_,rfl,_,rfl,?_⟩
  refine⟨_,?_,y,x % y,_,rfl,rfl,hy,Int.emod_nonneg _ c,?_,rfl⟩
  ·have:=Int.emod_lt_of_pos x (show 0 < y by omega)
   have:=Int.emod_nonneg x c
   omega
  ·rw [qX hx (by omega),hg]
theorem FK (T:d8 K mg t):bo P w K mg base dE 2 t.a_Q30 t.d_Q30 ["thing"] (qx K):=by
 refine T.F_Q30.ok rZ (fun vs H Q E h=>?_) (fun cdv A outer s H vs Q E hr h=>?_)
 ·obtain⟨_,_,rfl,_⟩:=h;rfl
 obtain⟨v,d,rfl,hD,k⟩:=h
 refine db.ok (ag (cM (fD (cU (cO (zV T) hr T.m_Q11 T.F_Q11.kp T.b_Q11 (ae (qv 0) (ae aj ah aT) af)))) (ao (aI lT)) bH)
   (ag (cE 1 rZ.nd (cf aA (qv 0) aj))
   (ag (cE 2 rZ.nd (cf aA (qv 0) aj))
   (ag (cM (qE (yW (fD (cU (cO (sM T) hr T.m_Q29 T.F_Q29.kp T.b_Q29 (ae (qv 1) ah af)))) (yW (fD (cU (cO (sM T) hr T.m_Q29 T.F_Q29.kp T.b_Q29 (ae (qv 2) ah af)))) (yV (bj j7 (qv 2) aj (bi _)))))) (ao (aI lT)) bH)
   (ao (aI (eQ nH (cO (lW T) hr T.m_Q0 T.F_Q0.kp T.b_Q0 (ae (qv 1) (ae (qv 2) ah af) af)) aj (bi _)))))))) ?_
 extract_lets +lift
 try dsimp -zeta -zetaDelta only [Cx.nox,Cx.wish,bG]
 refine⟨_,rfl,v,d,2,rfl,hD,⟨_,rfl,?_⟩⟩
 cases c2:oy 2 d with
 | false=>
  refine ku ?_
  rw [BN c2] at k
  exact k
 | true=>
  refine fj ?_
  obtain⟨p,x,y,dx,dy,rfl,rfl,hS,hx,hy⟩:=hD.two c2
  refine⟨_,rfl,p,_,_,_,rfl,rfl,hS,rfl,_,rfl,p,_,_,_,rfl,rfl,hS,rfl,?_⟩
  refine⟨_,rfl,x,dx,rfl,hx,_,rfl,?_⟩
  cases cx:f8 dx with
  | false=>
   refine ku (ku ?_)
   rw [HV cx] at k
   exact k
  | true=>
   refine fj ?_
   refine⟨_,rfl,y,dy,rfl,hy,_,rfl,?_⟩
   cases cy:f8 dy with
   | false=>
    refine ku (ku ?_)
    rw [HU cy] at k
    exact k
   | true=>
    refine fj ?_
    obtain⟨i,rfl⟩:=iT cx
    obtain⟨j,rfl⟩:=iT cy
    cases hx
    cases hy
    have kk:Q (.bl (decide (1≤j) && decide (Int.gcd i j=1))) H:=k
    refine⟨_,rfl,_,_,rfl,rfl,_,rfl,?_⟩
    by_cases c:j < 1
    ·refine d7 c ?_
     rw [decide_eq_false (show ¬ 1≤j by omega)] at kk
     exact kk
    ·refine cT c ?_
     refine⟨_,rfl,_,rfl,i,j,rfl,rfl,?_⟩
     rw [decide_eq_true (show 1≤j by omega),Bool.true_and] at kk
     have q:decide ((V.int (Int.gcd i j:Nat):V)=.int 1)=decide (Int.gcd i j=1):=decide_eq_decide.mpr ⟨fun z=>by injection z with z;omega,fun z=>by rw [z];rfl⟩
     rw [q]
     exact kk
theorem IH (T:d8 K mg t):bo P w K mg base dE 3 t.a_Q1 t.d_Q1 ["thing"] (iY K):=by
 refine T.F_Q1.ok HR (fun vs H Q E h=>?_) (fun cdv A outer s H vs Q E hr h=>?_)
 ·obtain⟨_,_,rfl,_⟩:=h;rfl
 obtain⟨v,d,rfl,hD,k⟩:=h
 refine db.ok (ao (aI (jW (cO (FK T) hr T.m_Q30 T.F_Q30.kp T.b_Q30 (ae (qv 0) ah af)) (jV (eQ jm (cf aA (qv 0) aj) aj (bi _)))))) ?_
 extract_lets +lift
 try dsimp -zeta -zetaDelta only [Cx.nox,Cx.wish,bG]
 refine⟨_,rfl,v,d,rfl,hD,?_⟩
 cases c:jU d with
 | false=>
  rw [wJ c] at k
  exact⟨_,rfl,k⟩
 | true=>
  obtain⟨i,j,rfl⟩:=yT c
  obtain⟨p,x,y,dx,dy,rfl,e,hS,hx,hy⟩:=hD.two rfl
  cases e
  cases hx
  rw [tG c] at k
  exact⟨_,rfl,_,rfl,p,_,_,_,rfl,rfl,hS,rfl,_,_,rfl,rfl,k⟩
theorem zQ (T:d8 K mg t):bo P w K mg base dE 2 t.a_Q43 t.d_Q43 ["top", "bottom"] (xM K):=by
 refine T.F_Q43.ok rV (fun vs H Q E h=>?_) (fun cdv A outer s H vs Q E hr h=>?_)
 ·obtain⟨_,_,rfl,_⟩:=h;rfl
 obtain⟨a,b,rfl,hb,hz,k⟩:=h
 refine db.ok (ag (cM (bj nH (qv 1) aj (bi _)) (ao eY) bH)
   (ag (cE 2 rV.nd (cO (lW T) hr T.m_Q0 T.F_Q0.kp T.b_Q0 (ae (qv 0) (ae (qv 1) ah af) af)))
   (ag (cM (bj j7 (qv 1) aj (bi _)) (ao (cE 2 rV.nd (qG kX (qv 2)))) bH)
   (ao (aI (cj (ae (aJ da (qv 0) (qv 2)) (ae (aJ da (qv 1) (qv 2)) ah bv) bv))))))) ?_
 extract_lets +lift
 try dsimp -zeta -zetaDelta only [Cx.nox,Cx.wish,bG]
 have gp:=bP (a:=a) hb
 have gb:((Int.gcd a b:Nat):Int).natAbs < 2 ^ 8990:=by
  have z:Int.gcd a b≤b.natAbs:=Nat.le_of_dvd (by omega) (by have:=Int.gcd_dvd_right a b;exact Int.natAbs_dvd_natAbs.mpr this)
  have e:((Int.gcd a b:Nat):Int).natAbs=Int.gcd a b:=Int.natAbs_natCast _
  omega
 refine⟨_,rfl,rfl,_,rfl,?_⟩
 refine cT (fun z=>by injection z with z;omega) ?_
 refine⟨_,rfl,_,rfl,a,b,rfl,?_⟩
 refine⟨_,rfl,_,_,rfl,rfl,_,rfl,?_⟩
 refine cT (by omega) ?_
 refine⟨_,rfl,_,rfl,_,_,rfl,rfl,⟨gp,gb⟩,_,rfl,_,rfl,_,_,rfl,rfl,⟨gp,gb⟩,oo,fun p hp=>?_⟩
 exact k p hp
theorem zP (T:d8 K mg t):bo P w K mg base dE 2 t.a_Q48 t.d_Q48 ["one", "other"] (Bo K):=by
 refine T.F_Q48.ok oO (fun vs H Q E h=>?_) (fun cdv A outer s H vs Q E hr h=>?_)
 ·obtain⟨_,_,_,_,_,_,rfl,_⟩:=h;rfl
 obtain⟨v,w,r,q,n,m,rfl,hv,hw,wr,wq,hz,k⟩:=h
 refine db.ok (ag (cE 2 oO.nd (cO (lW T) hr T.m_Q0 T.F_Q0.kp T.b_Q0 (ae (cf aA (qv 0) aj) (ae (cf aA (qv 1) aj) ah aD) aD)))
   (ag (cE 3 oO.nd (aJ dm (aJ cJ (cf aA (qv 0) aj) (aJ da (cf aA (qv 1) aj) (qv 2))) (aJ cJ (cf aA (qv 1) aj) (aJ da (cf aA (qv 0) aj) (qv 2)))))
   (ag (cE 4 oO.nd (cO (lW T) hr T.m_Q0 T.F_Q0.kp T.b_Q0 (ae (qv 3) (ae (qv 2) ah af) af)))
   (ao (aI (cj (ae (aJ da (qv 3) (qv 4)) (ae (aJ cJ (aJ da (cf aA (qv 0) aj) (qv 2)) (aJ da (cf aA (qv 1) aj) (qv 4))) ah bv) bv))))))) ?_
 extract_lets +lift
 try dsimp -zeta -zetaDelta only [Cx.nox,Cx.wish,bG]
 obtain⟨p,rfl,hv⟩:=hv
 obtain⟨p',rfl,hw⟩:=hw
 have c1:=bR wr.top (show n≤8990 by omega)
 have c2:=bR wr.bot (show n≤8990 by omega)
 have c3:=bR wq.top (show m≤8990 by omega)
 have c4:=bR wq.bot (show m≤8990 by omega)
 have gp:(0:Int) < (Int.gcd r.2 q.2:Nat):=bP wq.pos
 have gb:=mj (a:=r.2) wq.pos c4
 refine⟨_,rfl,p,_,_,_,rfl,rfl,hv,rfl,_,rfl,p',_,_,_,rfl,rfl,hw,rfl,r.2,q.2,rfl,?_⟩
 have z:=zk ⟨wr.pos,wr.cop⟩ ⟨wq.pos,wq.cop⟩
 have kk:mY H Q (qK r q):=by rw [z];exact k
 unfold qK at kk
 simp only at kk
 generalize ((Int.gcd r.2 q.2:Nat):Int)=d at gp gb kk ⊢
 refine⟨_,rfl,p,_,_,_,rfl,rfl,hv,rfl,_,rfl,p',_,_,_,rfl,rfl,hw,rfl,_,rfl,_,_,rfl,rfl,⟨gp,gb⟩,_,_,rfl,rfl,⟨c1,gS gp c4⟩,_,rfl,p',_,_,_,rfl,rfl,hw,rfl,_,rfl,p,_,_,_,rfl,rfl,hv,rfl,_,rfl,_,_,rfl,rfl,⟨gp,gb⟩,_,_,rfl,rfl,⟨c3,gS gp c2⟩,_,_,rfl,rfl,?_⟩
 refine⟨_,rfl,_,rfl,_,_,rfl,?_⟩
 have ep:(0:Int) < (Int.gcd (r.1 * (q.2 / d)+q.1 * (r.2 / d)) d:Nat):=bP gp
 have eb:=mj (a:=r.1 * (q.2 / d)+q.1 * (r.2 / d)) gp gb
 generalize ((Int.gcd (r.1 * (q.2 / d)+q.1 * (r.2 / d)) d:Nat):Int)=e at ep eb kk ⊢
 refine⟨_,rfl,_,rfl,_,_,rfl,rfl,⟨ep,eb⟩,_,rfl,p,_,_,_,rfl,rfl,hv,rfl,_,rfl,_,_,rfl,rfl,⟨gp,gb⟩,_,rfl,p',_,_,_,rfl,rfl,hw,rfl,_,rfl,_,_,rfl,rfl,⟨ep,eb⟩,_,_,rfl,rfl,⟨gS gp c2,gS ep c4⟩,oo,kk⟩
theorem sL (T:d8 K mg t):bo P w K mg base dE 3 t.a_Q44 t.d_Q44 ["one", "other"] (xN K):=by
 refine T.F_Q44.ok Ei (fun vs H Q E h=>?_) (fun cdv A outer s H vs Q E hr h=>?_)
 ·obtain⟨_,_,_,_,_,_,rfl,_⟩:=h;rfl
 obtain⟨v,w,r,q,n,m,rfl,hv,hw,wr,wq,hz,k⟩:=h
 refine db.ok (ao (aI (cO (zP T) hr T.m_Q48 T.F_Q48.kp T.b_Q48 (ae (qv 0) (ae (cj (ae (qG kX (cf aA (qv 1) aj)) (ae (cf aA (qv 1) aj) ah aD) uf)) ah dY) af)))) ?_
 extract_lets +lift
 try dsimp -zeta -zetaDelta only [Cx.nox,Cx.wish,bG]
 obtain⟨p',rfl,hw⟩:=hw
 refine⟨_,rfl,_,rfl,p',_,_,_,rfl,rfl,hw,rfl,_,rfl,_,rfl,p',_,_,_,rfl,rfl,hw,rfl,oo,fun pt ht=>?_⟩
 have s1:=ap ht (.tup [.int (-q.1),.int q.2])
 refine⟨v,.ref pt,r,(-q.1,q.2),n,m,rfl,hv.mono (aN.same s1),RV.of ai,wr,⟨wq.pos,by show (-q.1).natAbs < _;rw [Int.natAbs_neg];exact wq.top,wq.bot,AH wq.cop⟩,hz,fun p hp=>?_⟩
 refine k _ _ (s1.trans (ap hp _)) ?_
 rw [← qO]
 exact RV.of ai
theorem Fy (T:d8 K mg t):bo P w K mg base dE 2 t.a_Q45 t.d_Q45 ["one", "other"] (xL K):=by
 refine T.F_Q45.ok rT (fun vs H Q E h=>?_) (fun cdv A outer s H vs Q E hr h=>?_)
 ·obtain⟨_,_,_,_,_,_,rfl,_⟩:=h;rfl
 obtain⟨v,w,r,q,n,m,rfl,hv,hw,wr,wq,hz,k⟩:=h
 refine db.ok (ag (cE 2 rT.nd (cO (lW T) hr T.m_Q0 T.F_Q0.kp T.b_Q0 (ae (cf aA (qv 0) aj) (ae (cf aA (qv 1) aj) ah aD) aD)))
   (ag (cE 3 rT.nd (cO (lW T) hr T.m_Q0 T.F_Q0.kp T.b_Q0 (ae (cf aA (qv 1) aj) (ae (cf aA (qv 0) aj) ah aD) aD)))
   (ao (aI (cj (ae (aJ cJ (aJ da (cf aA (qv 0) aj) (qv 2)) (aJ da (cf aA (qv 1) aj) (qv 3))) (ae (aJ cJ (aJ da (cf aA (qv 0) aj) (qv 3)) (aJ da (cf aA (qv 1) aj) (qv 2))) ah bv) bv)))))) ?_
 extract_lets +lift
 try dsimp -zeta -zetaDelta only [Cx.nox,Cx.wish,bG]
 obtain⟨p,rfl,hv⟩:=hv
 obtain⟨p',rfl,hw⟩:=hw
 have c1:=bR wr.top (show n≤8990 by omega)
 have c2:=bR wr.bot (show n≤8990 by omega)
 have c3:=bR wq.top (show m≤8990 by omega)
 have c4:=bR wq.bot (show m≤8990 by omega)
 have lp:(0:Int) < (Int.gcd r.1 q.2:Nat):=bP wq.pos
 have lb:=mj (a:=r.1) wq.pos c4
 have mp:(0:Int) < (Int.gcd q.1 r.2:Nat):=bP wr.pos
 have mb:=mj (a:=q.1) wr.pos c2
 have z:=vv ⟨wr.pos,wr.cop⟩ ⟨wq.pos,wq.cop⟩
 have kk:mY H Q (k7 r q):=by rw [z];exact k
 unfold k7 at kk
 simp only at kk
 refine⟨_,rfl,p,_,_,_,rfl,rfl,hv,rfl,_,rfl,p',_,_,_,rfl,rfl,hw,rfl,r.1,q.2,rfl,_,rfl,p',_,_,_,rfl,rfl,hw,rfl,_,rfl,p,_,_,_,rfl,rfl,hv,rfl,q.1,r.2,rfl,?_⟩
 generalize ((Int.gcd r.1 q.2:Nat):Int)=l at lp lb kk ⊢
 generalize ((Int.gcd q.1 r.2:Nat):Int)=m' at mp mb kk ⊢
 refine⟨_,rfl,p,_,_,_,rfl,rfl,hv,rfl,_,rfl,_,_,rfl,rfl,⟨lp,lb⟩,_,rfl,p',_,_,_,rfl,rfl,hw,rfl,_,rfl,_,_,rfl,rfl,⟨mp,mb⟩,_,_,rfl,rfl,⟨gS lp c1,gS mp c3⟩,_,rfl,p,_,_,_,rfl,rfl,hv,rfl,_,rfl,_,_,rfl,rfl,⟨mp,mb⟩,_,rfl,p',_,_,_,rfl,rfl,hw,rfl,_,rfl,_,_,rfl,rfl,⟨lp,lb⟩,_,_,rfl,rfl,⟨gS mp c2,gS lp c4⟩,oo,kk⟩
theorem Fv (T:d8 K mg t):bo P w K mg base dE 3 t.a_Q49 t.d_Q49 ["one", "other"] (Bp K):=by
 refine T.F_Q49.ok Eh (fun vs H Q E h=>?_) (fun cdv A outer s H vs Q E hr h=>?_)
 ·obtain⟨_,_,_,_,_,rfl,_⟩:=h;rfl
 obtain⟨v,w,r,n,m,rfl,hv,⟨pw,rfl,hw⟩,wr,m0,m24,hn,k⟩:=h
 refine db.ok (ag (cM (bj nH (cf aA (qv 1) aj) aj (bi _)) (ao eY) bH)
   (ao (aI (cO (Fy T) hr T.m_Q45 T.F_Q45.kp T.b_Q45 (ae (qv 0) (ae (cO (zQ T) hr T.m_Q43 T.F_Q43.kp T.b_Q43 (ae (cf aA (qv 1) aj) (ae (cf aA (qv 1) aj) ah aD) aD)) ah aR) af))))) ?_
 extract_lets +lift
 try dsimp -zeta -zetaDelta only [Cx.nox,Cx.wish,bG]
 refine⟨_,rfl,pw,_,_,_,rfl,rfl,hw,rfl,rfl,_,rfl,cT (fun z=>by injection z with z;omega) ?_⟩
 refine⟨_,rfl,_,rfl,pw,_,_,_,rfl,rfl,hw,rfl,_,rfl,pw,_,_,_,rfl,rfl,hw,rfl,1,m,rfl,by omega,bR (n:=5) (by show ((m:Int)).natAbs < 32;omega) (by decide),fun pr hpr=>?_⟩
 have s1:=ap hpr (.tup [.int (eG 1 m).1,.int (eG 1 m).2])
 have rr:RV K _ (.ref pr) (eG 1 m):=RV.of (ai (H:=H) (a:=pr) (o:=.tup [.int (eG 1 m).1,.int (eG 1 m).2]))
 rw [F5 m0] at rr s1 ⊢
 refine⟨v,.ref pr,r,(1,(m:Int)),n,5,rfl,hv.mono (aN.same s1),rr,wr,Ft m0 m24,by omega,fun pt hpt=>?_⟩
 exact k _ _ (s1.trans (ap hpt _)) (RV.of ai)
theorem FD (T:d8 K mg t):bo P w K mg base dE 1 t.a_Q39 t.d_Q39 ["one", "other"] (lF K):=by
 refine T.F_Q39.ok Ek (fun vs H Q E h=>?_) (fun cdv A outer s H vs Q E hr h=>?_)
 ·obtain⟨_,_,_,_,_,_,rfl,_⟩:=h;rfl
 obtain⟨v,w,r,q,n,m,rfl,hv,hw,wr,wq,hz,k⟩:=h
 refine db.ok (ao (aI (eQ j7 (aJ cJ (cf aA (qv 0) aj) (cf aA (qv 1) aj)) (aJ cJ (cf aA (qv 1) aj) (cf aA (qv 0) aj)) (bi _)))) ?_
 extract_lets +lift
 try dsimp -zeta -zetaDelta only [Cx.nox,Cx.wish,bG]
 obtain⟨p,rfl,hv⟩:=hv
 obtain⟨p',rfl,hw⟩:=hw
 have c1:=bR wr.top (show n≤8990 by omega)
 have c2:=bR wr.bot (show n≤8990 by omega)
 have c3:=bR wq.top (show m≤8990 by omega)
 have c4:=bR wq.bot (show m≤8990 by omega)
 refine⟨_,rfl,p,_,_,_,rfl,rfl,hv,rfl,_,rfl,p',_,_,_,rfl,rfl,hw,rfl,_,_,rfl,rfl,⟨c1,c4⟩,_,rfl,p',_,_,_,rfl,rfl,hw,rfl,_,rfl,p,_,_,_,rfl,rfl,hv,rfl,_,_,rfl,rfl,⟨c3,c2⟩,_,_,rfl,rfl,k⟩
theorem FA (T:d8 K mg t):bo P w K mg base dE 2 t.a_Q41 t.d_Q41 ["one", "other"] (vB K):=by
 refine T.F_Q41.ok Ej (fun vs H Q E h=>?_) (fun cdv A outer s H vs Q E hr h=>?_)
 ·obtain⟨_,_,_,_,rfl,_⟩:=h;rfl
 obtain⟨v,w,r,q,rfl,hv,hw,ar,aq,k⟩:=h
 refine db.ok (ag (cM (cU (cO (FD T) hr T.m_Q39 T.F_Q39.kp T.b_Q39 (ae (qv 1) (ae (qv 0) ah af) af))) (ao (aI (qv 1))) bH)
   (ao (aI (qv 0)))) ?_
 extract_lets +lift
 try dsimp -zeta -zetaDelta only [Cx.nox,Cx.wish,bG]
 refine⟨_,rfl,_,rfl,w,v,q,r,800,800,rfl,hw,hv,aq.wf,ar.wf,by decide,_,rfl,?_⟩
 cases c:cS q r with
 | true=>exact ku ⟨_,rfl,k _ (by unfold d6;rw [if_pos c];exact hw)⟩
 | false=>exact fj ⟨_,rfl,k _ (by unfold d6;rw [if_neg (by rw [c];exact Bool.false_ne_true)];exact hv)⟩
theorem Fx (T:d8 K mg t):bo P w K mg base dE 3 t.a_Q46 t.d_Q46 ["some"] (xK K):=by
 refine T.F_Q46.ok i3 (fun vs H Q E h=>?_) (fun cdv A outer s H vs Q E hr h=>?_)
 ·obtain⟨_,_,_,_,_,rfl,_⟩:=h;rfl
 obtain⟨a,xs,rs,n,D₀,rfl,hS,hR,hWD,h0,hDn₀,hlen,hn,k⟩:=h
 refine db.ok (ag (cE 1 i3.nd zb)
   (ag (cG PassesOwn.never rfl (EX (qv 0)) (aH (i:=2) i3.nd rfl (by first | exact Or.inl rfl | exact Or.inr rfl))
   (ao (BP (DL hr) (qv 1) (cf aA (qv 2) aj) (aJ dm (zc (DL hr) (qv 1) (cf aA (qv 2) aj) aj ⟨rfl,rfl,rfl,rfl⟩) (cf aA (qv 2) aj)) rfl)))
   (ag (cE 3 i3.nd (c6 (v:=.ref t.c_NOUGHT) rfl T.m_NOUGHT rfl))
   (ag (cG PassesOwn.never rfl (y6 (qv 1)) (sj rfl (bI (aH (i:=4) i3.nd rfl (by first | exact Or.inl rfl | exact Or.inr rfl)) (bI (aH (i:=5) i3.nd rfl (by first | exact Or.inl rfl | exact Or.inr rfl)) eP)))
   (ao (cE 3 i3.nd (cO (zP T) hr T.m_Q48 T.F_Q48.kp T.b_Q48 (ae (qv 3) (ae (cO (zQ T) hr T.m_Q43 T.F_Q43.kp T.b_Q43 (ae (qv 5) (ae (qv 4) ah af) af)) ah aR) af)))))
   (ao (aI (qv 3))))))) ?_
 extract_lets +lift
 try dsimp -zeta -zetaDelta only [Cx.nox,Cx.wish,bG]
 refine fun D hDn=>⟨_,rfl,?_⟩
 have sD:=ap hDn (.dK [])
 rcases hS with hS | hS
 ·refine .inl ⟨a,rfl,⟨_,sD.seq hS⟩,js (K:=K) (a:=a) (xs:=xs) (fun i σ H'=>∃ (x:Option V) (ps:List (Int×Int)),σ=[some (.ref a),some (.ref D),x,none,none,none]/\aB H H'/\H' D=some (.dK (mZ ps))/\ky n i ps/\(∀ p∈ps,p.1∣(D₀:Int))/\iV ps=iU (rs.take i)) ⟨none,[],rfl,sD,ai,ky.nil n,(fun _ h=>nomatch h),rfl⟩ (fun i σ H1 _ ⟨_,_,_,s1,_⟩=>s1.seq hS) ?_ ?_⟩
  ·rintro i y σ H1 hi ⟨x,ps,rfl,s1,hD1,ok,dv,ev⟩
   obtain⟨ry,hry,hyv⟩:=hR.at hi
   have my:ry∈rs:=List.mem_of_getElem? hry
   have hil:=(List.getElem?_eq_some_iff.mp hry).1
   obtain⟨py,rfl,hSy⟩:=hyv.mono (aN.same s1)
   have el:(mZ ps).length=ps.length:=List.length_map _
   have hlp:(mZ ps).length < sizeLine:=by rw [el];exact aY (by have:=ok.len;omega)
   refine⟨_,rfl,D,rfl,.inl ⟨_,.inl hD1⟩,_,rfl,py,_,_,_,rfl,rfl,hSy,rfl,_,mQ.k (k:=Sum.inl ry.2) hD1,_,rfl,py,_,_,_,rfl,rfl,hSy,rfl,rK ps ry.2,ry.1,pO ps ry.2,rfl,_,rfl,_,rfl,py,_,_,_,rfl,rfl,hSy,rfl,D,_,rfl,tR.k (k:=Sum.inl ry.2) hD1 hlp,?_⟩
   refine⟨_,fG ps ry.2 ry.1,rfl,fun b o q=>?_,?_,ok.add (hWD ry my).1,uV (i:=0) (n:=0) dv (hWD ry my).2,?_⟩
   ·rw [az (aK q hDn)]
    exact s1 b o q
   ·rw [o6 ps _ _ ok.nd]
    exact ai
   ·rw [k9,ev,List.take_add_one,hry]
    exact (jK _ _).symm
  ·rintro σ H1 ⟨x,ps,rfl,s1,hD1,ok,dv,ev⟩
   rw [hR.1,List.take_length] at ev
   rw [hR.1] at ok
   refine⟨_,rfl,D,mZ ps,rfl,hD1,fun ob=>nN (d:=D) (ob:=ob) (kvs:=mZ ps) (fun j σ H'=>∃ (u:V) (acc:R) (y4 y5:Option V),σ=[some (.ref a),some (.ref D),x,some u,y4,y5]/\aB H H'/\H' D=some (.frz ob (.dK (mZ ps)))/\RV K H' u acc/\Bq D₀ (64 * 2 ^ n * j) acc/\val acc=iV (ps.take j)) ⟨_,(0,1),none,none,rfl,?_,ai,⟨_,rfl,T.q_NOUGHT _⟩,⟨by decide,by decide,⟨(D₀:Int),by show (D₀:Int)=1 * D₀;omega⟩,by show 0≤_;exact Nat.zero_le _⟩,f9⟩ (fun i σ H1 ⟨_,_,_,_,_,_,z,_⟩=>z) ?_ ?_⟩
   ·intro b o q
    rw [az (aK q hDn)]
    exact s1 b o q
   ·rintro j kk v p σ H2 hkv ⟨u,acc,y4,y5,rfl,s2,hD2,r2,w2,ev2⟩ hp
    have hkv':(ps.map fun p=>((Sum.inl p.1:cP),V.int p.2))[j]?=some (kk,v):=hkv
    rw [List.getElem?_map] at hkv'
    obtain⟨q,hq,e⟩:=Option.map_eq_some_iff.mp hkv'
    cases e
    have mq:=List.mem_of_getElem? hq
    have hjl:=(List.getElem?_eq_some_iff.mp hq).1
    have wq:=ok.wf (by omega) mq
    have lps:=ok.len
    have gq:=Aq ok dv hlen mq
    have wa:=AR w2 (by omega) h0 hDn₀
    have bq:=ok.bot q mq
    have e1:=ap hp (.tup [kV (Sum.inl q.1),V.int q.2])
    refine⟨p,_,rfl,bt.of ai,rfl,_,_,rfl,_,_,rfl,rfl,?_⟩
    refine⟨_,rfl,_,rfl,_,rfl,q.2,q.1,rfl,bq.1,bR bq.2 (by omega),fun p1 g1=>?_⟩
    have e2:=ap g1 (.tup [.int (eG q.2 q.1).1,.int (eG q.2 q.1).2])
    refine⟨u,.ref p1,acc,eG q.2 q.1,2 * n+12,n+8,rfl,(r2.mono (aN.same e1)).mono (aN.same e2),RV.of ai,wa,wq,by omega,fun p2 g2=>?_⟩
    have e3:=ap g2 (.tup [.int (bM acc (eG q.2 q.1)).1,.int (bM acc (eG q.2 q.1)).2])
    have s3:=((e1.trans e2).trans e3)
    refine⟨_,bM acc (eG q.2 q.1),_,_,rfl,s2.trans s3,s3 _ _ hD2,RV.of ai,(by rw [Nat.mul_succ];exact Bq.plus h0 w2 gq),?_⟩
    rw [jc w2.pos wq.pos,kU bq.1,ev2,List.take_add_one,hq]
    exact (jM _ _).symm
   ·rintro σ H2 ⟨u,acc,y4,y5,rfl,s2,hD2,r2,w2,ev2⟩
    have el:(mZ ps).length=ps.length:=List.length_map _
    rw [el,List.take_length] at ev2
    have es:=xA (fun r hr=>(hWD r hr).1.red) w2.red (ev2.trans ev)
    rw [es] at r2
    exact⟨_,rfl,k u H2 s2 r2⟩
 ·refine .inr ⟨a,rfl,⟨_,aN.same sD _ _ hS⟩,ik (K:=K) (a:=a) (xs:=xs) (fun i σ H'=>∃ (x:Option V) (ps:List (Int×Int)),σ=[some (.ref a),some (.ref D),x,none,none,none]/\aB H H'/\H' D=some (.dK (mZ ps))/\ky n i ps/\(∀ p∈ps,p.1∣(D₀:Int))/\iV ps=iU (rs.take i)) ⟨none,[],rfl,sD,ai,ky.nil n,(fun _ h=>nomatch h),rfl⟩ (fun i σ H1 _ ⟨_,_,_,s1,_⟩=>aN.same s1 _ _ hS) ?_ ?_⟩
  ·rintro i y σ H1 hi ⟨x,ps,rfl,s1,hD1,ok,dv,ev⟩
   obtain⟨ry,hry,hyv⟩:=hR.at hi
   have my:ry∈rs:=List.mem_of_getElem? hry
   have hil:=(List.getElem?_eq_some_iff.mp hry).1
   obtain⟨py,rfl,hSy⟩:=hyv.mono (aN.same s1)
   have el:(mZ ps).length=ps.length:=List.length_map _
   have hlp:(mZ ps).length < sizeLine:=by rw [el];exact aY (by have:=ok.len;omega)
   refine⟨_,rfl,D,rfl,.inl ⟨_,.inl hD1⟩,_,rfl,py,_,_,_,rfl,rfl,hSy,rfl,_,mQ.k (k:=Sum.inl ry.2) hD1,_,rfl,py,_,_,_,rfl,rfl,hSy,rfl,rK ps ry.2,ry.1,pO ps ry.2,rfl,_,rfl,_,rfl,py,_,_,_,rfl,rfl,hSy,rfl,D,_,rfl,tR.k (k:=Sum.inl ry.2) hD1 hlp,?_⟩
   refine⟨_,fG ps ry.2 ry.1,rfl,fun b o q=>?_,?_,ok.add (hWD ry my).1,uV (i:=0) (n:=0) dv (hWD ry my).2,?_⟩
   ·rw [az (aK q hDn)]
    exact s1 b o q
   ·rw [o6 ps _ _ ok.nd]
    exact ai
   ·rw [k9,ev,List.take_add_one,hry]
    exact (jK _ _).symm
  ·rintro σ H1 ⟨x,ps,rfl,s1,hD1,ok,dv,ev⟩
   rw [hR.1,List.take_length] at ev
   rw [hR.1] at ok
   refine⟨_,rfl,D,mZ ps,rfl,hD1,fun ob=>nN (d:=D) (ob:=ob) (kvs:=mZ ps) (fun j σ H'=>∃ (u:V) (acc:R) (y4 y5:Option V),σ=[some (.ref a),some (.ref D),x,some u,y4,y5]/\aB H H'/\H' D=some (.frz ob (.dK (mZ ps)))/\RV K H' u acc/\Bq D₀ (64 * 2 ^ n * j) acc/\val acc=iV (ps.take j)) ⟨_,(0,1),none,none,rfl,?_,ai,⟨_,rfl,T.q_NOUGHT _⟩,⟨by decide,by decide,⟨(D₀:Int),by show (D₀:Int)=1 * D₀;omega⟩,by show 0≤_;exact Nat.zero_le _⟩,f9⟩ (fun i σ H1 ⟨_,_,_,_,_,_,z,_⟩=>z) ?_ ?_⟩
   ·intro b o q
    rw [az (aK q hDn)]
    exact s1 b o q
   ·rintro j kk v p σ H2 hkv ⟨u,acc,y4,y5,rfl,s2,hD2,r2,w2,ev2⟩ hp
    have hkv':(ps.map fun p=>((Sum.inl p.1:cP),V.int p.2))[j]?=some (kk,v):=hkv
    rw [List.getElem?_map] at hkv'
    obtain⟨q,hq,e⟩:=Option.map_eq_some_iff.mp hkv'
    cases e
    have mq:=List.mem_of_getElem? hq
    have hjl:=(List.getElem?_eq_some_iff.mp hq).1
    have wq:=ok.wf (by omega) mq
    have lps:=ok.len
    have gq:=Aq ok dv hlen mq
    have wa:=AR w2 (by omega) h0 hDn₀
    have bq:=ok.bot q mq
    have e1:=ap hp (.tup [kV (Sum.inl q.1),V.int q.2])
    refine⟨p,_,rfl,bt.of ai,rfl,_,_,rfl,_,_,rfl,rfl,?_⟩
    refine⟨_,rfl,_,rfl,_,rfl,q.2,q.1,rfl,bq.1,bR bq.2 (by omega),fun p1 g1=>?_⟩
    have e2:=ap g1 (.tup [.int (eG q.2 q.1).1,.int (eG q.2 q.1).2])
    refine⟨u,.ref p1,acc,eG q.2 q.1,2 * n+12,n+8,rfl,(r2.mono (aN.same e1)).mono (aN.same e2),RV.of ai,wa,wq,by omega,fun p2 g2=>?_⟩
    have e3:=ap g2 (.tup [.int (bM acc (eG q.2 q.1)).1,.int (bM acc (eG q.2 q.1)).2])
    have s3:=((e1.trans e2).trans e3)
    refine⟨_,bM acc (eG q.2 q.1),_,_,rfl,s2.trans s3,s3 _ _ hD2,RV.of ai,(by rw [Nat.mul_succ];exact Bq.plus h0 w2 gq),?_⟩
    rw [jc w2.pos wq.pos,kU bq.1,ev2,List.take_add_one,hq]
    exact (jM _ _).symm
   ·rintro σ H2 ⟨u,acc,y4,y5,rfl,s2,hD2,r2,w2,ev2⟩
    have el:(mZ ps).length=ps.length:=List.length_map _
    rw [el,List.take_length] at ev2
    have es:=xA (fun r hr=>(hWD r hr).1.red) w2.red (ev2.trans ev)
    rw [es] at r2
    exact⟨_,rfl,k u H2 s2 r2⟩
theorem FY (T:d8 K mg t):bo P w K mg base dE 2 t.a_Q12 t.d_Q12 ["some"] (lu K):=by
 refine T.F_Q12.ok oR (fun vs H Q E h=>?_) (fun cdv A outer s H vs Q E hr h=>?_)
 ·obtain⟨_,_,_,rfl,_⟩:=h;rfl
 obtain⟨a,xs,ws,rfl,hS,al,hn,ok,k⟩:=h
 refine db.ok (ag (cE 1 oR.nd aj)
   (ag (cG PassesOwn.never rfl (dS (qv 0)) (aH (i:=2) oR.nd rfl (by first | exact Or.inl rfl | exact Or.inr rfl))
   (ao (cE 1 oR.nd (aJ cJ (qv 1) (aJ da (cf aA (qv 2) aj) (cO (lW T) hr T.m_Q0 T.F_Q0.kp T.b_Q0 (ae (qv 1) (ae (cf aA (qv 2) aj) ah aD) af)))))))
   (ao (aI (bZ (N':=["one", "bottom"]) (src:=[none,some 1]) rfl (by exact (dS (qv 0))) (fun _ _ _ _ _=>(by exact (by exact aH (i:=0) (by show List.Nodup (["one", "bottom"]:List Str);decide +kernel) (by exact rfl) (by first | exact Or.inl rfl | exact Or.inr rfl)))) (fun _ _ _ _ _=>dk) (fun _ _ _ _ _=>(by exact (by exact (aJ cJ (by exact (bL (bW (K:=K) (by exact rfl)) (by exact (qv 0)) aj (by exact fun _ _=>rfl))) (by exact (aJ da (by exact (qv 1)) (by exact (bL (bW (K:=K) (by exact rfl)) (by exact (qv 0)) aj (by exact fun _ _=>rfl))))))))) (by exact⟨rfl,rfl,rfl,rfl,trivial⟩) rfl (by decide +kernel) rfl (by decide +kernel) (by exact bB rfl ⟨rfl,trivial⟩)))))) ?_
 extract_lets +lift
 try dsimp -zeta -zetaDelta only [Cx.nox,Cx.wish,bG]
 have hlen:=al.len
 rw [List.length_map] at hlen
 let Iv1:Nat->L2.St->Hp->Prop:=fun i σ H'=>∃ (B:Int) (x3:Option V),σ=[some (.ref a),some (.int B),x3]/\H'=H/\0 < B/\B∣(84 * 5354228880 ^ 23)/\∀ w∈ws.take i,w.2.2.2∣B
 refine⟨_,rfl,a,rfl,⟨_,hS⟩,js (K:=K) (a:=a) (xs:=xs) Iv1 ⟨1,none,rfl,rfl,by decide,⟨(84 * 5354228880 ^ 23),rfl⟩,by simp⟩ (fun i σ H1 _ ⟨_,_,_,e,_⟩=>by rw [e];exact hS) ?_ ?_⟩
 ·rintro i x σ H1 hx ⟨B,x3,rfl,rfl,b0,bd,all⟩
  obtain⟨r,hr,px,rfl,hSx⟩:=al.at hx
  rw [List.getElem?_map] at hr
  obtain⟨w,hw,er⟩:=Option.map_eq_some_iff.mp hr
  subst er
  have okw:=ok w (List.mem_of_getElem? hw)
  have c1:=okw.am.bot
  have c2:=Int.le_of_dvd (by decide) okw.am.dvd
  have B84:=Int.le_of_dvd (by decide) bd
  have g0:0 < (Int.gcd B w.2.2.2:Int):=bP (by omega)
  have g1:(Int.gcd B w.2.2.2:Int)≤w.2.2.2:=Int.le_of_dvd (by omega) (Int.gcd_dvd_right _ _)
  obtain⟨l0,l1,l2,l3⟩:=Ag b0 (show 0 < w.2.2.2 by omega) bd okw.am.dvd
  refine⟨_,rfl,_,rfl,px,_,_,_,rfl,rfl,hSx,rfl,_,rfl,_,rfl,px,_,_,_,rfl,rfl,hSx,rfl,B,w.2.2.2,rfl,_,_,rfl,rfl,⟨g0,wI (by omega) (by omega)⟩,_,_,rfl,rfl,⟨wI (by omega) (by omega),wI (Int.ediv_nonneg (by omega) (by omega)) (Int.le_trans (Int.ediv_le_self _ (by omega)) (by omega))⟩,?_⟩
  refine⟨_,_,rfl,rfl,l0,l1,fun z hz=>?_⟩
  rw [List.take_add_one,hw] at hz
  rcases List.mem_append.mp hz with h | h
  ·exact Int.dvd_trans (all z h) l2
  ·have:z=w:=by simpa using h
   subst this
   exact l3
 ·rintro σ H1 ⟨B,x3,rfl,rfl,b0,bd,all⟩
  rw [hlen,List.take_length] at all
  have B84:=Int.le_of_dvd (by decide) bd
  refine⟨_,rfl,a,rfl,⟨_,hS⟩,fun D hD=>cL (f7 hS) (fun _=>true) (fun i=>V.int ((eC B ws).getD i 0)) hD (by omega) (fun i x H' hi s' hx R E kR kE=>?_) fun H4 s4 h4=>?_⟩
  ·obtain⟨r,hr,px,rfl,hSx⟩:=al.at hx
   rw [List.getElem?_map] at hr
   obtain⟨w,hw,er⟩:=Option.map_eq_some_iff.mp hr
   subst er
   have okw:=ok w (List.mem_of_getElem? hw)
   have t':=aN.same (K:=K) s'
   have e:(eC B ws).getD i 0=w.2.2.1 * (B / w.2.2.2):=av 0 (by unfold eC;rw [List.getElem?_map,hw];rfl)
   have q:=kR rfl _ (aB.refl _)
   rw [e] at q
   have:=okw.am.bot
   have:=Int.le_of_dvd (by decide) okw.am.dvd
   have:=okw.am.top
   have:=okw.am.top'
   exact⟨iz.set rfl,_,rfl,px,_,_,_,rfl,rfl,t' _ _ hSx,rfl,_,rfl,_,rfl,px,_,_,_,rfl,rfl,t' _ _ hSx,rfl,_,_,rfl,rfl,⟨by omega,wI (by omega) (by omega)⟩,_,_,rfl,rfl,⟨wI (by omega) (by omega),wI (Int.ediv_nonneg (by omega) (by omega)) (Int.le_trans (Int.ediv_le_self _ (by omega)) (by omega))⟩,q⟩
  ·refine k D B H4 s4 hD b0 bd all ?_
   rw [h4,show xs.length=(eC B ws).length by unfold eC;rw [List.length_map];exact hlen,cR 0 V.int]
theorem FC (T:d8 K mg t):bo P w K mg base dE 4 t.a_Q40 t.d_Q40 ["thing"] (rP K):=by
 refine T.F_Q40.ok rW (fun vs H Q E h=>?_) (fun cdv A outer s H vs Q E hr h=>?_)
 ·obtain⟨_,_,rfl,_⟩:=h;rfl
 obtain⟨v,d,rfl,hD,k⟩:=h
 refine db.ok (ag (cM (fD (cU (cO (zV T) hr T.m_Q11 T.F_Q11.kp T.b_Q11 (ae (qv 0) (ae aj ah aT) af)))) (ao (aI lT)) bH)
   (ag (cE 1 rW.nd (cf aA (qv 0) aj))
   (ag (cE 2 rW.nd (cf aA (qv 0) aj))
   (ag (cM (qE (yW (fD (cU (cO (DF T) hr T.m_Q6 T.F_Q6.kp T.b_Q6 (ae (qv 1) (ae (c6 (v:=.int (24)) rfl T.m_TURNS ⟨_,rfl⟩) ah af) af)))) (yV (fD (cU (cO (DF T) hr T.m_Q6 T.F_Q6.kp T.b_Q6 (ae (qv 2) (ae (c6 (v:=.int (24)) rfl T.m_TURNS ⟨_,rfl⟩) ah af) af))))))) (ao (aI lT)) bH)
   (ao (aI (jW (eQ nG (qv 1) (qv 2) (bi _)) (jV (cO (IH T) hr T.m_Q1 T.F_Q1.kp T.b_Q1 (ae (cf aA (qv 0) aj) ah aD)))))))))) ?_
 extract_lets +lift
 try dsimp -zeta -zetaDelta only [Cx.nox,Cx.wish,bG]
 refine⟨_,rfl,v,d,3,rfl,hD,⟨_,rfl,?_⟩⟩
 cases c3:oy 3 d with
 | false=>
  refine ku ?_
  rw [wY c3] at k
  exact k
 | true=>
  refine fj ?_
  obtain⟨p,x,y,z,dx,dy,dz,rfl,rfl,hS,hx,hy,hz⟩:=bw.three hD c3
  have kk:Q (.bl (lY 24 dx && (lY 24 dy && (Kz dx dy && dA dz)))) H:=k
  refine⟨_,rfl,p,_,_,_,rfl,rfl,hS,rfl,_,rfl,p,_,_,_,rfl,rfl,hS,rfl,?_⟩
  refine⟨_,rfl,x,dx,24,rfl,hx,_,rfl,?_⟩
  cases cx:lY 24 dx with
  | false=>
   rw [cx,Bool.false_and] at kk
   exact ku (ku kk)
  | true=>
   rw [cx,Bool.true_and] at kk
   refine fj ?_
   refine⟨_,rfl,y,dy,24,rfl,hy,_,rfl,?_⟩
   cases cy:lY 24 dy with
   | false=>
    rw [cy,Bool.false_and] at kk
    exact ku kk
   | true=>
    rw [cy,Bool.true_and] at kk
    refine fj ?_
    obtain⟨i,rfl,_⟩:=lX cx
    obtain⟨j,rfl,_⟩:=lX cy
    cases hx
    cases hy
    have k3:Q (.bl (decide (i≤j) && dA dz)) H:=kk
    refine⟨_,rfl,_,rfl,_,_,rfl,rfl,_,rfl,?_⟩
    by_cases c:i≤j
    ·rw [decide_eq_true c,Bool.true_and] at k3
     refine d7 c ?_
     exact⟨_,rfl,p,_,_,_,rfl,rfl,hS,rfl,z,dz,rfl,hz,k3⟩
    ·rw [decide_eq_false c,Bool.false_and] at k3
     exact cT c k3
theorem zT (T:d8 K mg t):bo P w K mg base dE 1 t.a_Q23 t.d_Q23 ["work", "turn"] (oH K):=by
 refine T.F_Q23.ok Er (fun vs H Q E h=>?_) (fun cdv A outer s H vs Q E hr h=>?_)
 ·obtain⟨_,_,_,rfl,_⟩:=h;rfl
 obtain⟨v,w,t₀,rfl,⟨p,x,rfl,hS,rx⟩,k⟩:=h
 refine db.ok (ao (aI (qH nG nG (cf aA (qv 0) aj) (qv 1) (cf aA (qv 0) aj)))) ?_
 extract_lets +lift
 try dsimp -zeta -zetaDelta only [Cx.nox,Cx.wish,bG]
 refine⟨_,rfl,p,_,_,_,rfl,rfl,hS,rfl,_,rfl,_,_,rfl,rfl,_,rfl,?_⟩
 by_cases c:w.1≤t₀
 ·refine d7 (by omega) ?_
  have e:gm w t₀=decide ((t₀:Int)≤(w.2.1:Int)):=by
   unfold gm
   rw [decide_eq_true c,Bool.true_and]
   exact decide_eq_decide.mpr (by omega)
  rw [e] at k
  exact⟨_,rfl,p,_,_,_,rfl,rfl,hS,rfl,_,_,rfl,rfl,k⟩
 ·refine cT (by omega) ?_
  have e:gm w t₀=false:=by
   unfold gm
   rw [decide_eq_false c,Bool.false_and]
  rw [e] at k
  exact k
theorem FX (T:d8 K mg t):bo P w K mg base dE 1 t.a_Q13 t.d_Q13 ["count"] (lA K):=by
 refine T.F_Q13.ok Ey (fun vs H Q E h=>?_) (fun cdv A outer s H vs Q E hr h=>?_)
 ·obtain⟨_,rfl,_⟩:=h;rfl
 obtain⟨n,rfl,hn,k⟩:=h
 refine db.ok (ao (aI (bZ (N':=["work", "count"]) (src:=[none,some 0]) rfl (by exact (dg rfl T.z_range (ae (qv 0) ah af))) (fun _ _ _ _ _=>(by exact (by exact aH (i:=0) (by show List.Nodup (["work", "count"]:List Str);decide +kernel) (by exact rfl) (by first | exact Or.inl rfl | exact Or.inr rfl)))) (fun _ _ _ _ _=>dk) (fun _ _ _ _ _=>(by exact (by exact (aJ uz (by exact (ck (ae lT ah aT))) (by exact (qv 1)))))) (by exact⟨rfl,rfl,rfl,rfl,trivial⟩) rfl (by decide +kernel) rfl (by decide +kernel) (by exact bB rfl ⟨rfl,trivial⟩)))) ?_
 extract_lets +lift
 try dsimp -zeta -zetaDelta only [Cx.nox,Cx.wish,bG]
 refine⟨_,rfl,n,rfl,by omega,by omega,fun D hD=>AI (J:=Dg 0 n) (n:=n) (fun i ys H'=>∃ rows:List Addr,ys=rows.map V.ref/\rows.length=i/\rows.Nodup/\D∉rows/\(∀ r∈rows,H r=none)/\aB H H'/\H' D=some (.lst ys)/\∀ r∈rows,H' r=some (.lst (vI n fun _=>false))) ⟨[],rfl,rfl,List.nodup_nil,(fun z=>by cases z),(fun r hr=>by cases hr),ap hD _,ai,fun r hr=>by cases hr⟩ (fun i ys H' hi _=>hi) (fun ys H' ⟨rows,e1,e2,e3,e4,e5,e6,e7,e8⟩=>⟨Nat.le_refl _,k D rows H' e6 hD e5 ⟨by rw [e7,e1],e2,e3,e4,fun i r e=>e8 r (List.mem_of_getElem? e)⟩⟩) ?_⟩
 rintro i ys H1 x H2 hi ⟨rows,rfl,e2,e3,e4,e5,e6,e7,e8⟩ ⟨rfl,rfl⟩ R E kR kE
 refine⟨iz.set rfl,?_⟩
 refine⟨Hd,fun q hq=>?_⟩
 have s1:=ap hq (.lst [.bl false])
 refine⟨_,rfl,q,.bl false,n,rfl,rfl,ai,by omega,fun r hr=>?_⟩
 have s2:=ap hr (.lst (List.replicate n (.bl false)))
 have s12:=s1.trans s2
 have nr:r∉rows:=fun m=>by rw [s1 _ _ (e8 r m)] at hr;cases hr
 have nD:r≠D:=fun z=>by subst z;rw [s1 _ _ e7] at hr;cases hr
 have er:List.replicate n (V.bl false)=vI n fun _=>false:=by
  unfold vI
  apply List.ext_getElem?
  intro j
  rw [List.getElem?_replicate,List.getElem?_map]
  by_cases c:j < n
  ·rw [if_pos c,List.getElem?_range c];rfl
  ·rw [if_neg c,List.getElem?_eq_none (by rw [List.length_range];omega)];rfl
 have hD4:=s12 _ _ e7
 refine kR (.ref r) _ hD4 (aY (by rw [List.length_map];omega)) ⟨rows++[r],by rw [List.map_append];rfl,by rw [List.length_append,e2];rfl,?_,?_,fun z hz=>?_,fun b o q=>?_,ai,fun z hz=>?_⟩
 ·rw [List.nodup_append]
  exact⟨e3,List.nodup_cons.mpr ⟨(fun z=>by cases z),List.nodup_nil⟩,fun a ha b hb=>by rw [List.mem_singleton.mp hb];exact fun z=>nr (by rw [← z];exact ha)⟩
 ·intro m
  rcases List.mem_append.mp m with z | z
  ·exact e4 z
  ·exact nD (List.mem_singleton.mp z).symm
 ·rcases List.mem_append.mp hz with y | y
  ·exact e5 z y
  ·rw [List.mem_singleton.mp y]
   cases c:H r with
   | none=>rfl
   | some o=>rw [s1 _ _ (e6 _ _ c)] at hr;cases hr
 ·rw [az (aK q hD)]
  exact s12 _ _ (e6 _ _ q)
 ·rcases List.mem_append.mp hz with y | y
  ·rw [az (show z≠D from fun w=>e4 (by rw [← w];exact y))]
   exact s12 _ _ (e8 z y)
  ·rw [List.mem_singleton.mp y,az nD,ai,er]
theorem FJ (T:d8 K mg t):bo P w K mg base dE 1 t.a_Q31 t.d_Q31 ["leanings", "lean"] (qA K):=by
 exact T.F_Q31.ok En (fun vs H Q E h=>h.elim) (fun cdv A outer s H vs Q E hr h=>h.elim)
theorem DE (T:d8 K mg t):bo P w K mg base dE 2 t.a_Q7 t.d_Q7 ["count", "leans"] (ko K):=by
 refine T.F_Q7.ok xT (fun vs H Q E h=>?_) (fun cdv A outer s H vs Q E hr h=>?_)
 ·obtain⟨_,_,rfl,_⟩:=h;rfl
 obtain⟨n,p,rfl,hS,hn,k⟩:=h
 refine db.ok (ag (cE 2 xT.nd (cO (FX T) hr T.m_Q13 T.F_Q13.kp T.b_Q13 (ae (qv 0) ah af)))
   (ag (cG PassesOwn.never rfl (eZ (qv 1)) (aH (i:=3) xT.nd rfl (by first | exact Or.inl rfl | exact Or.inr rfl))
   (ao (cD (cO (FJ T) hr T.m_Q31 T.F_Q31.kp T.b_Q31 (ae (qv 2) (ae (qv 3) ah af) af)))))
   (ao (aI (qv 2))))) ?_
 extract_lets +lift
 try dsimp -zeta -zetaDelta only [Cx.nox,Cx.wish,bG]
 refine⟨_,rfl,n,rfl,hn,fun l rows H1 s1 hl hr m1=>?_⟩
 let Iv1:Nat->L2.St->Hp->Prop:=fun i σ H'=>∃ (x4:Option V),σ=[some (.int n),some (.ref p),some (.ref l),x4]/\aB H1 H'
 refine⟨_,rfl,p,rfl,⟨_,aN.same (K:=K) s1 _ _ hS⟩,ik (K:=K) (a:=p) (xs:=[]) Iv1 ⟨none,rfl,aB.refl _⟩ (fun i σ H' _ ⟨_,_,s⟩=>aN.same (K:=K) (s1.trans s) _ _ hS) (fun i x σ H' hx _=>by cases hx) ?_⟩
 rintro σ H2 ⟨x4,rfl,s2⟩
 exact⟨_,rfl,k l rows H2 (s1.trans s2) (m1.same s2)⟩
theorem FI (T:d8 K mg t):bo P w K mg base dE 3 t.a_Q32 t.d_Q32 ["sheet"] (qy K):=by
 refine T.F_Q32.ok fB (fun vs H Q E h=>?_) (fun cdv A outer s H vs Q E hr h=>?_)
 ·obtain⟨_,_,rfl,_⟩:=h;rfl
 obtain⟨v,ws,rfl,⟨p,a,b,rfl,hS,wv,hb⟩,w20,ok,k⟩:=h
 refine db.ok (ag (cE 1 fB.nd (cf aA (qv 0) aj))
   (ag (cE 2 fB.nd (cO (DE T) hr T.m_Q7 T.F_Q7.kp T.b_Q7 (ae (aQ aO (by rfl) T.z_len boot_len (ae (qv 1) ah af)) (ae (cf aA (qv 0) aj) ah aD) aR)))
   (ag (cE 3 fB.nd (ck ah))
   (ag (cG PassesOwn.never rfl (kH rfl T.z_enumerate (ae (qv 1) ah af)) (sj rfl (bI (aH (i:=4) fB.nd rfl (by first | exact Or.inl rfl | exact Or.inr rfl)) (bI (aH (i:=5) fB.nd rfl (by first | exact Or.inl rfl | exact Or.inr rfl)) eP)))
   (ag (ig (i:=6) (N':=["base", "other", "leanings", "number"]) (src:=[none,none,some 2,some 4]) fB.nd rfl (by first | exact Or.inl rfl | exact Or.inr rfl) rfl (by exact (kH rfl T.z_enumerate (ae (qv 1) ah af))) (fun _ _ _ _ _=>(by exact (by exact ii (K:=K) (n:=2) (by exact rfl) (by exact rfl) (by exact bI (by exact aH (i:=0) (by show List.Nodup (["base", "other", "leanings", "number"]:List Str);decide +kernel) (by exact rfl) (by first | exact Or.inl rfl | exact Or.inr rfl)) (by exact bI (by exact aH (i:=1) (by show List.Nodup (["base", "other", "leanings", "number"]:List Str);decide +kernel) (by exact rfl) (by first | exact Or.inl rfl | exact Or.inr rfl)) eP))))) (fun _ _ _ _ _=>(dQ (cU (by exact (bL (cB (K:=K) (by exact rfl)) (by exact (bL (cB (K:=K) (by exact rfl)) (by exact (qv 2)) (by exact (qv 3)) (by exact fun _ _=>rfl))) (by exact (qv 0)) (by exact fun _ _=>rfl)))))) (fun _ _ _ _ _=>(by exact (by exact (bL (bW (K:=K) (by exact rfl)) (by exact (qv 1)) aj (by exact fun _ _=>rfl))))) (by exact⟨rfl,rfl,rfl,rfl,⟨rfl,rfl,rfl,rfl,trivial⟩⟩) rfl (by decide +kernel) rfl (by decide +kernel) (by exact bB rfl ⟨rfl,⟨rfl,trivial⟩⟩))
   (ag (ig (i:=7) (N':=["leaner", "other", "number", "leanings"]) (src:=[none,none,some 4,some 2]) fB.nd rfl (by first | exact Or.inl rfl | exact Or.inr rfl) rfl (by exact (kH rfl T.z_enumerate (ae (qv 1) ah af))) (fun _ _ _ _ _=>(by exact (by exact ii (K:=K) (n:=2) (by exact rfl) (by exact rfl) (by exact bI (by exact aH (i:=0) (by show List.Nodup (["leaner", "other", "number", "leanings"]:List Str);decide +kernel) (by exact rfl) (by first | exact Or.inl rfl | exact Or.inr rfl)) (by exact bI (by exact aH (i:=1) (by show List.Nodup (["leaner", "other", "number", "leanings"]:List Str);decide +kernel) (by exact rfl) (by first | exact Or.inl rfl | exact Or.inr rfl)) eP))))) (fun _ _ _ _ _=>(dQ (cU (by exact (bL (cB (K:=K) (by exact rfl)) (by exact (bL (cB (K:=K) (by exact rfl)) (by exact (qv 3)) (by exact (qv 0)) (by exact fun _ _=>rfl))) (by exact (qv 2)) (by exact fun _ _=>rfl)))))) (fun _ _ _ _ _=>(by exact (by exact (bL (bW (K:=K) (by exact rfl)) (by exact (qv 1)) aj (by exact fun _ _=>rfl))))) (by exact⟨rfl,rfl,rfl,rfl,⟨rfl,rfl,rfl,rfl,trivial⟩⟩) rfl (by decide +kernel) rfl (by decide +kernel) (by exact bB rfl ⟨rfl,⟨rfl,trivial⟩⟩))
   (ag (cE 8 fB.nd (aQ (wE rfl) (by rfl) T.z_max boot_max (ae (aJ sK (ck (ae (cf aA (qv 5) aj) ah aD)) (qv 6)) ah bv)))
   (ag (cE 9 fB.nd (aQ (nV rfl) (by rfl) T.z_min boot_min (ae (aJ sK (ck (ae (cf aA (qv 5) aj) ah aD)) (qv 7)) ah bv)))
   (ag (cM (bj jm (qv 8) (qv 9) (bi _)) (ao eY) bH)
   (ao (cD (fO PySem.F.plainAttrs_list PySem.F.slot_list_append PySem.F.type_list_append bU (qv 3) (ae (cj (ae (qv 8) (ae (qv 9) (ae (cf aA (qv 5) aj) ah aD) af) af)) ah dY))))))))))
   (ao (aI (bK bn (by rfl) T.z_tuple boot_tuple (ae (qv 3) ah af)))))))) ?_
 extract_lets +lift
 try dsimp -zeta -zetaDelta only [Cx.nox,Cx.wish,bG]
 obtain⟨pa,xs,rfl,hpa,al⟩:=id wv
 have hxl:=al.len
 refine⟨_,rfl,p,_,_,_,rfl,rfl,hS,rfl,?_⟩
 refine⟨_,rfl,pa,_,rfl,.inr hpa,_,rfl,p,_,_,_,rfl,rfl,hS,rfl,ws.length,b,(by rw [hxl];rfl),hb,by omega,fun l rows H1 s1 MX1=>?_⟩
 refine⟨(by show 0≤sizeLine;exact Nat.zero_le _),fun dl hdl=>?_⟩
 obtain⟨s2,hd2⟩:=pF hdl (.lst [])
 have MX2:=MX1.same s2
 have s02:=s1.trans s2
 generalize aG H1 dl _=H2 at s2 hd2 MX2 s02 ⊢
 have hdN:H dl=none:=by
  cases e:H dl with
  | none=>rfl
  | some o=>rw [s1 _ _ e] at hdl;cases hdl
 have ndl:dl≠l:=fun z=>by subst z;rw [MX1.top] at hdl;cases hdl
 have ndr:dl∉rows:=fun z=>by obtain⟨ys,e⟩:=MX1.ls _ z;rw [hdl] at e;cases e
 have t02:=aN.same (K:=K) s02
 have mst:∀ H',dB dl H2 H'->De H' l rows ws.length (fun _ _=>false):=fun H' S=>⟨S.keep _ _ (fun z=>ndl z.symm) MX2.top,MX2.len,MX2.nd,MX2.ne,fun i r e=>S.keep _ _ (fun z=>ndr (by rw [← z];exact List.mem_of_getElem? e)) (MX2.row i r e)⟩
 have sst:∀ H',dB dl H2 H'->aB H H':=fun H' S b' o e=>S.keep b' o (fun z=>by subst z;rw [hdN] at e;cases e) (s02 _ _ e)
 let Iv1:Nat->L2.St->Hp->Prop:=fun i σ H'=>∃ (ys:List V) (x5 x6 x7 x8 x9 x10:Option V),σ=[some (.ref p),some (.ref pa),some (.ref l),some (.ref dl),x5,x6,x7,x8,x9,x10]/\dB dl H2 H'/\H' dl=some (.lst ys)/\cn (AS K H') ys (ws.take i)
 refine⟨_,rfl,pa,rfl,⟨_,t02 _ _ hpa⟩,nO (sq:=bt K) (a:=pa) (xs:=xs) Iv1 ⟨[],none,none,none,none,none,none,rfl,dB.refl ⟨_,hd2⟩,hd2,.nil⟩ (fun i σ H' _ ⟨_,_,_,_,_,_,_,_,S,_⟩=>aN.step (K:=K) S _ _ (t02 _ _ hpa)) ?_ ?_⟩
 ·rintro i x pe σ H3 hx ⟨ys,x5,x6,x7,x8,x9,x10,rfl,S3,hd3,alI⟩ hpe
  have hi:i < ws.length:=by have:=(List.getElem?_eq_some_iff.mp hx).1;omega
  obtain⟨w,hw,pw,am,rfl,hpw,ram⟩:=al.at hx
  have wok:=(ok w (List.mem_of_getElem? hw)).le
  obtain⟨s4,hpe4⟩:=pF hpe (.tup [.int i,.ref pw])
  generalize aG H3 pe _=H4 at s4 hpe4 ⊢
  have S4:=S3.trans (dB.same s4 ⟨_,hd3⟩)
  have t4:=t02.trans (aN.step (K:=K) S4)
  refine⟨pe,_,rfl,bt.of hpe4,rfl,_,_,rfl,_,_,rfl,rfl,?_⟩
  have MX:=mst _ S4
  have SM:=t4
  have no0:((List.range xs.length).filter fun _=>false).map (fun _=>V.int 0)=[]:=by rw [List.filter_eq_nil_iff.mpr fun _ _=>Bool.false_ne_true];rfl
  refine⟨_,rfl,pa,rfl,⟨_,(SM _ _ hpa)⟩,fun D1 hD1=>cL (oq ((SM _ _ hpa))) (fun _=>false) (fun _=>V.int 0) hD1 (by omega) (fun j y H' hj s' hy R E kR kE=>?_) fun H5 s5 h5=>?_⟩
  ·obtain⟨pt,x',rfl,hx',hpt⟩:=hy
   have hj':j < ws.length:=by omega
   have Ms:=MX.same s'
   obtain⟨rr,hrr⟩:∃ r,rows[i]?=some r:=⟨_,List.getElem?_eq_getElem (by rw [MX.len];omega)⟩
   refine⟨pt,_,rfl,bt.of hpt,rfl,_,_,rfl,_,_,rfl,rfl,(iz.set rfl).set' rfl,?_⟩
   exact⟨_,rfl,_,rfl,l,_,_,_,rfl,rfl,aU.of Ms.top,bh (v:=V.ref rr) (by rw [List.getElem?_map,hrr];rfl),_,rfl,rr,_,_,_,rfl,rfl,aU.of (Ms.row _ _ hrr),bh (oV (by omega)),_,rfl,fj (kE rfl _ (aB.refl _))⟩
  rw [no0] at h5
  have MX5:=MX.same s5
  have SM5:=SM.trans (aN.same (K:=K) s5)
  refine⟨_,rfl,pa,rfl,⟨_,(SM5 _ _ hpa)⟩,fun D2 hD2=>cL (oq ((SM5 _ _ hpa))) (fun _=>false) (fun _=>V.int 0) hD2 (by omega) (fun j y H' hj s' hy R E kR kE=>?_) fun H6 s6 h6=>?_⟩
  ·obtain⟨pt,x',rfl,hx',hpt⟩:=hy
   have hj':j < ws.length:=by omega
   have Ms:=MX5.same s'
   obtain⟨rr,hrr⟩:∃ r,rows[j]?=some r:=⟨_,List.getElem?_eq_getElem (by rw [MX5.len];omega)⟩
   refine⟨pt,_,rfl,bt.of hpt,rfl,_,_,rfl,_,_,rfl,rfl,(iz.set rfl).set' rfl,?_⟩
   exact⟨_,rfl,_,rfl,l,_,_,_,rfl,rfl,aU.of Ms.top,bh (v:=V.ref rr) (by rw [List.getElem?_map,hrr];rfl),_,rfl,rr,_,_,_,rfl,rfl,aU.of (Ms.row _ _ hrr),bh (oV (by omega)),_,rfl,fj (kE rfl _ (aB.refl _))⟩
  rw [no0] at h6
  have s46:=s5.trans s6
  have h5':=s6 _ _ h5
  have t6:=SM5.trans (aN.same (K:=K) s6)
  refine⟨_,rfl,pw,_,_,_,rfl,rfl,t6 _ _ hpw,rfl,Hd,fun q1 hq1=>?_⟩
  have s7:=ap hq1 (.lst [.int (w.1:Nat)])
  refine⟨_,rfl,q1,D1,_,_,rfl,rfl,ai,s7 _ _ h5',Nat.le_of_lt (aY (by show 1≤1000;decide)),fun q2 hq2=>?_⟩
  have s8:=ap hq2 (.lst ([.int (w.1:Nat)]++[]))
  refine⟨q2,[((w.1:Nat):Int)],rfl,aU.of ai,Nat.zero_lt_one,fun M hM _=>?_⟩
  rw [List.mem_singleton.mp hM]
  have s78:=s7.trans s8
  have h6':=s78 _ _ h6
  have t8:=t6.trans (aN.same (K:=K) s78)
  refine⟨_,rfl,pw,_,_,_,rfl,rfl,t8 _ _ hpw,rfl,Hd,fun q3 hq3=>?_⟩
  have s9:=ap hq3 (.lst [.int (w.2.1:Nat)])
  refine⟨_,rfl,q3,D2,_,_,rfl,rfl,ai,s9 _ _ h6',Nat.le_of_lt (aY (by show 1≤1000;decide)),fun q4 hq4=>?_⟩
  have sA:=ap hq4 (.lst ([.int (w.2.1:Nat)]++[]))
  refine⟨q4,[((w.2.1:Nat):Int)],rfl,aU.of ai,Nat.zero_lt_one,fun M hM _=>?_⟩
  rw [List.mem_singleton.mp hM]
  have s4A:=(s46.trans s78).trans (s9.trans sA)
  generalize aG (aG (aG (aG H6 q1 _) q2 _) q3 _) q4 _=HA at s4A ⊢
  have SA:=S4.trans (dB.same s4A ⟨_,s4 _ _ hd3⟩)
  have hdA:=s4A _ _ (s4 _ _ hd3)
  refine⟨_,rfl,_,rfl,_,_,rfl,rfl,_,rfl,cT (by omega) ?_⟩
  refine⟨_,rfl,.inl ⟨rfl,_,aU.of hdA⟩,_,rfl,_,rfl,_,rfl,pw,_,_,_,rfl,rfl,(t02.trans (aN.step (K:=K) SA)) _ _ hpw,rfl,JF,fun pn hpn=>?_⟩
  obtain⟨sB,hpB⟩:=pF hpn (.tup [.int (w.1:Nat),.int (w.2.1:Nat),am])
  generalize aG HA pn _=HB at sB hpB ⊢
  have hdB:=sB _ _ hdA
  have SB:=SA.trans (dB.same sB ⟨_,hdA⟩)
  have li:=alI.len
  rw [List.length_take] at li
  refine⟨dl,ys,_,rfl,rfl,hdB,aY (by omega),?_⟩
  have tC:aN K HB (aG HB dl (.lst (ys++[.ref pn]))):=aN.up hdB _
  have tI:=(((aN.same (K:=K) s4).trans (aN.same s4A)).trans (aN.same sB)).trans tC
  refine⟨_,_,_,_,_,_,_,rfl,SB.trans (dB.up hdB),ai,?_⟩
  rw [List.take_add_one,hw]
  exact (alI.mono fun _ _ z=>z.mono tI).snoc ⟨pn,am,rfl,tC _ _ (bt.of hpB),((ram.mono t02).mono (aN.step (K:=K) SB)).mono tC⟩
 ·rintro σ H3 ⟨ys,x5,x6,x7,x8,x9,x10,rfl,S3,hd3,alI⟩
  refine⟨_,rfl,dl,_,rfl,.inl ⟨aU.of hd3,fun pt hpt=>?_⟩⟩
  have s4:=ap hpt (.tup ys)
  rw [hxl,List.take_length] at alI
  exact k (.ref pt) _ ((sst _ S3).trans s4) ⟨pt,ys,rfl,bt.of ai,alI.mono fun _ _ z=>z.mono (aN.same s4)⟩
theorem IC (T:d8 K mg t):bo P w K mg base dE 2 t.a_Q8 t.d_Q8 ["works", "left"] (kl K):=by
 refine T.F_Q8.ok uj (fun vs H Q E h=>?_) (fun cdv A outer s H vs Q E hr h=>?_)
 ·obtain⟨_,_,_,_,rfl,_⟩:=h;rfl
 obtain⟨v,q,ws,ls,rfl,⟨p,xs,rfl,hS,al⟩,hw,hq,hl,k⟩:=h
 refine db.ok (ag (cE 2 uj.nd (ck ah))
   (ag (cG PassesOwn.never rfl (eZ (qv 0)) (aH (i:=3) uj.nd rfl (by first | exact Or.inl rfl | exact Or.inr rfl))
   (ag (ig (i:=4) (N':=["place", "turn", "work"]) (src:=[none,none,some 3]) uj.nd rfl (by first | exact Or.inl rfl | exact Or.inr rfl) rfl (by exact (kH rfl T.z_enumerate (ae (qv 1) ah af))) (fun _ _ _ _ _=>(by exact (by exact ii (K:=K) (n:=2) (by exact rfl) (by exact rfl) (by exact bI (by exact aH (i:=0) (by show List.Nodup (["place", "turn", "work"]:List Str);decide +kernel) (by exact rfl) (by first | exact Or.inl rfl | exact Or.inr rfl)) (by exact bI (by exact aH (i:=1) (by show List.Nodup (["place", "turn", "work"]:List Str);decide +kernel) (by exact rfl) (by first | exact Or.inl rfl | exact Or.inr rfl)) eP))))) (fun _ _ _ _ _=>(dQ (cU (by exact (kJ (zT T) (by exact hr.mono (by decide)) (by exact rfl) T.m_Q23 T.F_Q23.kp T.b_Q23 (by exact .nil) (by exact fm) (ae (by exact (qv 2)) (ae (by exact (qv 1)) ah af) af)))))) (fun _ _ _ _ _=>(by exact (by exact (qv 0)))) (by exact⟨rfl,rfl,rfl,rfl,trivial⟩) rfl (by decide +kernel) rfl (by decide +kernel) (by exact bB rfl ⟨rfl,trivial⟩))
   (ao (cD (fO PySem.F.plainAttrs_list PySem.F.slot_list_append PySem.F.type_list_append bU (qv 2) (ae (za (bj jm (aQ aO (by rfl) T.z_len boot_len (ae (qv 4) ah af)) aj (bi _)) (cj (ae (cf b8 (qv 4) aj) (ae (cf b8 (qv 4) (qG kX aj)) ah aD) aD)) y8) ah Bh))))))
   (ao (aI (qv 2))))) ?_
 extract_lets +lift
 try dsimp -zeta -zetaDelta only [Cx.nox,Cx.wish,bG]
 have hlen:=al.len
 refine⟨(by show 0≤sizeLine;exact Nat.zero_le _),fun l h0=>?_⟩
 have s0:=ap h0 (.lst [])
 let Iv1:Nat->L2.St->Hp->Prop:=fun i σ H'=>∃ (ys:List V) (x4 x5:Option V),σ=[some (.ref p),some (.ref q),some (.ref l),x4,x5]/\aB H H'/\H' l=some (.lst ys)/\cn (tN K H') ys ((ws.take i).map (bx ls))
 refine⟨_,rfl,p,rfl,⟨_,aN.same (K:=K) s0 _ _ hS⟩,ik (K:=K) (a:=p) (xs:=xs) Iv1 ⟨[],none,none,rfl,s0,ai,.nil⟩ (fun i σ H1 _ ⟨_,_,_,_,sm,_⟩=>aN.same sm _ _ hS) ?_ ?_⟩
 ·rintro i x σ H1 hx ⟨ys,x4,x5,rfl,s1,hl1,al1⟩
  obtain⟨w,hwi,wv⟩:=al.at hx
  have hq1:=aN.same (K:=K) s1 _ _ hq
  have nl:(ba ls).length=ls.length:=List.length_map _
  refine⟨_,rfl,q,rfl,⟨_,hq1⟩,fun D hD=>cL (oq hq1) (fun i=>gm w (ls.getD i 0)) (fun i=>V.int i) hD (by omega) (fun j y H' hj s' hy R E kR kE=>?_) fun H4 s4 h4=>?_⟩
  ·obtain⟨pt,z,rfl,hz,hpt⟩:=hy
   obtain⟨z',hz',rfl⟩:∃ z',ls[j]?=some z'/\V.int (z':Nat)=z:=by
    unfold ba at hz
    rw [List.getElem?_map] at hz
    exact Option.map_eq_some_iff.mp hz
   rw [av 0 hz'] at kR kE
   refine⟨pt,_,rfl,bt.of hpt,rfl,_,_,rfl,_,_,rfl,rfl,(iz.set rfl).set' rfl,?_⟩
   refine⟨_,rfl,_,rfl,x,w,z',rfl,wv.mono (aN.same (s1.trans s')),_,rfl,?_⟩
   cases c:gm w z' with
   | true=>exact ku ⟨_,rfl,kR c _ (aB.refl _)⟩
   | false=>exact fj (kE c _ (aB.refl _))
  rw [nl] at h4
  replace h4:H4 D=some (.lst ((gg ls w).map fun i:Nat=>V.int i)):=h4
  have hl4:=s4 _ _ hl1
  have ne:D≠l:=fun z=>by subst z;rw [hl1] at hD;cases hD
  have hle:=al1.len
  rw [List.length_map,List.length_take] at hle
  have ewi:(ws.take (i+1)).map (bx ls)=(ws.take i).map (bx ls)++[bx ls w]:=by
   rw [List.take_add_one,hwi,List.map_append];rfl
  refine⟨_,rfl,.inl ⟨rfl,_,aU.of hl4⟩,_,rfl,D,_,rfl,.inl (aU.of h4),_,_,rfl,rfl,_,rfl,?_⟩
  cases c:gg ls w with
  | nil=>
   rw [c] at h4
   refine fj ?_
   refine⟨l,_,_,rfl,rfl,hl4,aY (by omega),?_⟩
   refine⟨_,_,_,rfl,?_,ai,?_⟩
   ·intro b o e
    rw [az (aK e h0)]
    exact s4 _ _ (s1 _ _ e)
   ·rw [ewi]
    refine (al1.mono fun v d m=>m.mono ((aN.same s4).trans (aN.up hl4 _))).snoc ?_
    unfold bx
    rw [c]
    rfl
  | cons a r=>
   rw [c] at h4
   refine d7 (by show (0:Int) < ((List.map (fun i:Nat=>V.int i) (a :: r)).length:Int);rw [List.length_map,List.length_cons];omega) ?_
   have hlast:rF ((a :: r).map fun i:Nat=>V.int i) (-1)=some (.int ((a :: r).getLast (by simp):Nat)):=by
    have e:=List.dropLast_concat_getLast (show (a :: r)≠[] by simp)
    have e2:(a :: r).map (fun i:Nat=>V.int i)=(a :: r).dropLast.map (fun i:Nat=>V.int i)++[V.int ((a :: r).getLast (by simp):Nat)]:=by
     conv=>lhs;rw [← e]
     rw [List.map_append];rfl
    rw [e2]
    exact AL _ _
   have hfst:rF ((a :: r).map fun i:Nat=>V.int i) 0=some (.int (a:Nat)):=bh (j:=0) rfl
   refine⟨_,rfl,D,_,_,_,rfl,rfl,aU.of h4,hfst,_,rfl,_,rfl,D,_,_,_,rfl,rfl,aU.of h4,hlast,oo,fun pt hpt=>?_⟩
   have s5:=ap hpt (.tup [.int a,.int ((a :: r).getLast (by simp):Nat)])
   have hl5:=s5 _ _ hl4
   refine⟨l,_,_,rfl,rfl,hl5,aY (by omega),?_⟩
   refine⟨_,_,_,rfl,?_,ai,?_⟩
   ·intro b o e
    rw [az (aK e h0)]
    exact s5 _ _ (s4 _ _ (s1 _ _ e))
   ·rw [ewi]
    refine (al1.mono fun v d m=>m.mono (((aN.same s4).trans (aN.same s5)).trans (aN.up hl5 _))).snoc ?_
    unfold bx
    rw [c]
    exact⟨pt,rfl,aN.up (K:=K) hl5 _ _ _ (bt.of ai)⟩
 ·rintro σ H1 ⟨ys,x4,x5,rfl,s1,hl1,al1⟩
  rw [hlen,List.take_length] at al1
  exact⟨_,rfl,k l ys H1 s1 h0 hl1 al1⟩
theorem zO (T:d8 K mg t):bo P w K mg base dE 1 t.a_Q50 t.d_Q50 ["windows", "begin", "end"] (BB K):=by
 refine T.F_Q50.ok Eg (fun vs H Q E h=>?_) (fun cdv A outer s H vs Q E hr h=>?_)
 ·obtain⟨_,_,_,_,rfl,_⟩:=h;rfl
 obtain⟨l,xs,os,p,rfl,hS,al,hn,k⟩:=h
 refine db.ok (ao (aI (bZ (N':=["number", "window", "begin", "end"]) (src:=[none,none,some 1,some 2]) rfl (by exact (lR rfl T.z_enumerate (ae (qv 0) ah af))) (fun _ _ _ _ _=>(by exact (by exact ii (K:=K) (n:=2) (by exact rfl) (by exact rfl) (by exact bI (by exact aH (i:=0) (by show List.Nodup (["number", "window", "begin", "end"]:List Str);decide +kernel) (by exact rfl) (by first | exact Or.inl rfl | exact Or.inr rfl)) (by exact bI (by exact aH (i:=1) (by show List.Nodup (["number", "window", "begin", "end"]:List Str);decide +kernel) (by exact rfl) (by first | exact Or.inl rfl | exact Or.inr rfl)) eP))))) (fun _ _ _ _ _=>(dQ (qE (oY (bj Ck (by exact (qv 1)) y8 (bi _)) (oY (bj nG (by exact (qv 2)) (by exact (bL (bW (K:=K) (by exact rfl)) (by exact (qv 1)) aj (by exact fun _ _=>rfl))) (bi _)) (oX (bj nG (by exact (bL (bW (K:=K) (by exact rfl)) (by exact (qv 1)) aj (by exact fun _ _=>rfl))) (by exact (qv 3)) (bi _)))))))) (fun _ _ _ _ _=>(by exact (by exact (qv 0)))) (by exact⟨rfl,rfl,rfl,rfl,⟨rfl,rfl,rfl,rfl,trivial⟩⟩) rfl (by decide +kernel) rfl (by decide +kernel) (by exact bB rfl ⟨rfl,⟨rfl,trivial⟩⟩)))) ?_
 extract_lets +lift
 try dsimp -zeta -zetaDelta only [Cx.nox,Cx.wish,bG]
 have hlen:=al.len
 refine⟨_,rfl,l,rfl,⟨_,hS⟩,fun D hD=>cL (tY hS) (fun i=>gr p.1 p.2 (os.getD i none)) (fun i=>V.int i) hD (by omega) (fun i y H' hi s' hx R E kR kE=>?_) fun H4 s4 h4=>?_⟩
 ·obtain⟨pt,x,rfl,hx,hpt⟩:=hx
  obtain⟨o,ho,ow⟩:=al.at hx
  have eo:os.getD i none=o:=av none ho
  rw [eo] at kR kE
  refine⟨pt,_,rfl,bt.of hpt,rfl,_,_,rfl,_,_,rfl,rfl,(iz.set rfl).set' rfl,?_⟩
  cases o with
  | none=>
   obtain rfl:x=.non:=ow
   exact⟨_,rfl,rfl,_,rfl,fj (fj (kE rfl _ (aB.refl _)))⟩
  | some q=>
   obtain⟨pw,rfl,hw⟩:=ow
   have hw':=aN.same (K:=K) s' _ _ hw
   refine⟨_,rfl,rfl,_,rfl,ku ?_⟩
   refine⟨_,rfl,_,rfl,pw,_,_,_,rfl,rfl,hw',rfl,_,_,rfl,rfl,_,rfl,?_⟩
   by_cases c:p.1≤q.1
   ·refine d7 (by omega) ?_
    refine⟨_,rfl,pw,_,_,_,rfl,rfl,hw',rfl,_,rfl,_,_,rfl,rfl,_,rfl,?_⟩
    by_cases c':q.2≤p.2
    ·refine d7 (by omega) ?_
     exact⟨_,rfl,kR (by show (decide (p.1≤q.1) && decide (q.2≤p.2))=true;rw [decide_eq_true c,decide_eq_true c'];rfl) _ (aB.refl _)⟩
    ·refine cT (by omega) ?_
     exact kE (by show (decide (p.1≤q.1) && decide (q.2≤p.2))=false;rw [decide_eq_false c',Bool.and_false]) _ (aB.refl _)
   ·refine cT (by omega) (fj ?_)
    exact kE (by show (decide (p.1≤q.1) && decide (q.2≤p.2))=false;rw [decide_eq_false c,Bool.false_and]) _ (aB.refl _)
 ·refine k D H4 s4 hD ?_
  rw [h4,hlen]
  rfl
theorem IG (T:d8 K mg t):bo P w K mg base dE 2 t.a_Q2 t.d_Q2 ["windows", "amounts", "count"] (iX K):=by
 refine T.F_Q2.ok gL (fun vs H Q E h=>?_) (fun cdv A outer s H vs Q E hr h=>?_)
 ·obtain⟨_,_,_,_,_,_,rfl,_⟩:=h;rfl
 obtain⟨l,a,xs,os,as,n,rfl,hS,al,hn,ha,hlen,hb,n1,n24,k⟩:=h
 refine db.ok (ag (cE 3 gL.nd (cj (ae aj (ae aj ah aT) aT)))
   (ag (cE 4 gL.nd (qG kX aj))
   (ag (cE 5 gL.nd aj)
   (ag (cG PassesOwn.never rfl (dg rfl T.z_range (ae (qv 2) ah af)) (aH (i:=6) gL.nd rfl (by first | exact Or.inl rfl | exact Or.inr rfl))
   (ao (cG PassesOwn.never rfl (vK rfl T.z_range (ae (aJ i7 (qv 2) aj) (ae (aJ i7 (qv 6) aj) (ae (qG kX aj) ah uf) bv) bv)) (aH (i:=7) gL.nd rfl (by first | exact Or.inl rfl | exact Or.inr rfl))
   (ag (cE 8 gL.nd (aQ (wC rfl) (by rfl) T.z_sum boot_sum (ae (bZ (N':=["number", "amounts"]) (src:=[none,some 1]) rfl (by exact (dS (cO (zO T) hr T.m_Q50 T.F_Q50.kp T.b_Q50 (ae (qv 0) (ae (qv 6) (ae (qv 7) ah af) af) af)))) (fun _ _ _ _ _=>(by exact (by exact aH (i:=0) (by show List.Nodup (["number", "amounts"]:List Str);decide +kernel) (by exact rfl) (by first | exact Or.inl rfl | exact Or.inr rfl)))) (fun _ _ _ _ _=>dk) (fun _ _ _ _ _=>(by exact (by exact (bL (cB (K:=K) (by exact rfl)) (by exact (qv 1)) (by exact (qv 0)) (by exact fun _ _=>rfl))))) (by exact⟨rfl,rfl,rfl,rfl,trivial⟩) rfl (by decide +kernel) rfl (by decide +kernel) (by exact bB rfl ⟨rfl,trivial⟩)) ah eO)))
   (ag (cE 9 gL.nd (aJ dm (aJ i7 (qv 7) (qv 6)) aj))
   (ao (cM (bj jm (aJ gN (qv 8) (qv 5)) (aJ gN (qv 4) (qv 9)) (bi _)) (ag (cE 3 gL.nd (cj (ae (qv 6) (ae (qv 7) ah af) af)))
   (ag (cE 4 gL.nd (qv 8))
   (ao (cE 5 gL.nd (qv 9))))) bH)))))))
   (ao (aI (qv 3))))))) ?_
 extract_lets +lift
 try dsimp -zeta -zetaDelta only [Cx.nox,Cx.wish,bG]
 have hxl:=al.len
 have LB:=fun q=>CD hb hn q
 generalize hL:cY os (io as)=L at LB k
 refine⟨oo,fun p0 h0=>?_⟩
 have s0:=ap h0 (.tup [.int 0,.int 0])
 let Iv1:Nat->L2.St->Hp->Prop:=fun i σ H'=>∃ (vb:Addr) (ld ln:Int) (x7 x8 x9 x10:Option V),σ=[some (.ref l),some (.ref a),some (.int n),some (.ref vb),some (.int ld),some (.int ln),x7,x8,x9,x10]/\aB H H'/\mR K H' (fR n i n) L vb ld ln
 refine⟨_,rfl,_,rfl,n,rfl,by omega,by omega,eT (lo:=0) (n:=(n:Int).toNat) Iv1 ⟨p0,-1,1,none,none,none,none,rfl,s0,.inl ⟨rfl,rfl,fun r hr=>?_⟩⟩ ?_ ?_⟩
 ·unfold fR ir at hr;omega
 ·rintro i σ H1 hi ⟨vb,ld,ln,x7,x8,x9,x10,rfl,s1,best⟩
  have hin:i < n:=by omega
  rw [Int.zero_add]
  refine⟨_,rfl,_,_,rfl,rfl,_,rfl,_,_,rfl,rfl,_,rfl,_,_,rfl,⟨by omega,by omega,by omega,by omega⟩,Au (hi:=(n:Int) - 1) (n:=((n:Int) - 1 - ((i:Int) - 1)).toNat) (fun j σ H'=>∃ (vb:Addr) (ld ln:Int) (x8 x9 x10:Option V),σ=[some (.ref l),some (.ref a),some (.int n),some (.ref vb),some (.int ld),some (.int ln),some (.int i),x8,x9,x10]/\aB H H'/\mR K H' (fR n i (n - j)) L vb ld ln) ⟨vb,ld,ln,x8,x9,x10,rfl,s1,best⟩ ?_ ?_⟩
  ·rintro j σ H2 hj ⟨vb,ld,ln,x8,x9,x10,rfl,s2,best⟩
   obtain⟨e,he⟩:∃ e:Nat,n - j=e+1:=⟨n - j - 1,by omega⟩
   rw [he] at best
   rw [show (n:Int) - 1 - (j:Int)=(e:Nat) by omega,show n - (j+1)=e by omega]
   have t2:=aN.same (K:=K) s2
   refine⟨_,rfl,_,rfl,_,rfl,l,xs,os,(i,e),rfl,s2.seq hS,al.mono (fun _ _ m=>m.mono t2),hn,fun D H3 s3 hD h3=>?_⟩
   refine⟨D,rfl,⟨_,aU.of h3⟩,fun E hE=>cL (f7 (aU.of h3)) (fun _=>true) (fun m=>V.int (io as ((cc os (i,e)).getD m 0))) hE ?_ (fun m x H' hm s' hx R E kR kE=>?_) fun H4 s4 h4=>?_⟩
   ·unfold ba cc
    rw [List.length_map]
    have:=List.length_filter_le (fun i_1=>gr i e (os.getD i_1 none)) (List.range os.length)
    rw [List.length_range] at this
    exact Nat.le_trans this (by omega)
   ·unfold ba at hx
    rw [List.getElem?_map] at hx
    obtain⟨z,hz,rfl⟩:=Option.map_eq_some_iff.mp hx
    have q:=kR rfl _ (aB.refl _)
    rw [av 0 hz] at q
    have hzl:z < os.length:=by
     have:=List.mem_of_getElem? hz
     unfold cc at this
     exact List.mem_range.mp (List.mem_filter.mp this).1
    obtain⟨y,hy⟩:∃ y,as[z]?=some y:=⟨_,List.getElem?_eq_getElem (by omega)⟩
    rw [show io as z=y from av 0 hy] at q
    exact⟨iz.set rfl,_,rfl,_,rfl,a,_,_,_,rfl,rfl,((s2.trans s3).trans s').seq ha,bh (by rw [List.getElem?_map,hy];rfl),q⟩
   have e4:H4 E=some (.lst (((cc os (i,e)).map (io as)).map V.int)):=by
    rw [h4,show (ba (cc os (i,e))).length=(cc os (i,e)).length from List.length_map _,cR 0 (fun k=>V.int (io as k)),List.map_map]
    rfl
   have s24:=s3.trans s4
   have sH:=s2.trans s24
   refine⟨E,_,rfl,aU.of e4,?_⟩
   have eL:((cc os (i,e)).map (io as)).sum=L (i,e):=by rw [← hL];rfl
   rw [eL]
   have lb:=LB (i,e)
   have elen:(e:Int) - (i:Int)+1=bO (i,e):=rfl
   refine⟨_,rfl,_,rfl,_,_,rfl,rfl,_,_,rfl,rfl,?_⟩
   have lp:1≤bO (i,e)/\bO (i,e)≤24:=by rw [← elen];omega
   have bl:(ld=-1∨(0≤ld/\ld≤(64512 * 5354228880 ^ 23)))/\0 < ln/\ln≤24:=by
    rcases best with ⟨r1,r2,_⟩ | ⟨q,_,r1,r2,b⟩
    ·exact⟨.inl r1,by omega,by omega⟩
    ·exact⟨.inr (by rw [r1];exact LB q),by rw [r2];exact (show ir n q from b.inn.1).pos,by
      have z:=(show ir n q from b.inn.1)
      unfold ir at z
      rw [r2]
      unfold bO
      omega⟩
   refine⟨_,rfl,_,rfl,_,_,rfl,rfl,.inr ⟨by omega,by omega⟩,_,rfl,_,rfl,_,_,rfl,rfl,.inr ⟨by omega,by omega⟩,_,_,rfl,rfl,_,rfl,?_⟩
   have st:=fun r=>rR (n:=n) (b:=i) (e:=e) (by omega) (by omega) r
   by_cases c:ld * bO (i,e) < L (i,e) * ln
   ·refine d7 c ?_
    refine⟨_,rfl,_,rfl,oo,fun pt hpt=>?_⟩
    have s5:=ap hpt (.tup [.int (i:Nat),.int (e:Nat)])
    refine⟨_,rfl,_,rfl,?_⟩
    refine⟨pt,L (i,e),bO (i,e),_,_,_,rfl,sH.trans s5,.inr ⟨(i,e),bt.of ai,rfl,rfl,?_⟩⟩
    rcases best with ⟨_,_,r3⟩ | ⟨q,_,r1,r2,b⟩
    ·exact wH fun r=>⟨fun h=>((st r).mp h).elim (fun z=>absurd z (r3 r)) id,fun h=>(st r).mpr (.inr h)⟩
    ·subst r1 r2
     exact b.more (n:=n) (fun r hr=>hr.1) st c
   ·refine cT c ?_
    refine⟨vb,ld,ln,_,_,_,rfl,sH,?_⟩
    rcases best with ⟨r1,r2,r3⟩ | ⟨q,hq,r1,r2,b⟩
    ·exfalso
     subst r1 r2
     apply c
     omega
    ·subst r1 r2
     refine .inr ⟨q,aN.same s24 _ _ hq,rfl,rfl,b.stay st (by omega) (.inl ?_)⟩
     have:=b.inn
     unfold fR at this
     unfold tW
     show q.1 < i∨q.1=i/\e≤q.2
     omega
  ·rintro σ H2 ⟨vb,ld,ln,x8,x9,x10,rfl,s2,best⟩
   refine⟨vb,ld,ln,_,_,_,_,rfl,s2,best.mono (fun _ _ h=>h) fun r=>?_⟩
   rw [show n - ((n:Int) - 1 - ((i:Int) - 1)).toNat=i by omega]
   exact rS r
 ·rintro σ H1 ⟨vb,ld,ln,x7,x8,x9,x10,rfl,s1,best⟩
  rw [show (n:Int).toNat=n by omega] at best
  refine⟨_,rfl,?_⟩
  rcases best with ⟨_,_,r3⟩ | ⟨q,hq,_,_,b⟩
  ·exact absurd (show fR n n n (0,0) from ⟨⟨Nat.le_refl _,by show 0 < n;omega⟩,.inl (by show 0 < n;omega)⟩) (r3 _)
  ·exact k vb q H1 s1 hq (b.congr vG)
theorem FH (T:d8 K mg t):bo P w K mg base dE 3 t.a_Q33 t.d_Q33 ["works", "left"] (qk K):=by
 refine T.F_Q33.ok rY (fun vs H Q E h=>?_) (fun cdv A outer s H vs Q E hr h=>?_)
 ·obtain⟨_,_,_,_,rfl,_⟩:=h;rfl
 obtain⟨v,q,ws,ls,rfl,⟨p,xs,rfl,hS,al⟩,hw,ok,hq,l1,l24,k⟩:=h
 refine db.ok (ag (cE 2 rY.nd (cO (IC T) hr T.m_Q8 T.F_Q8.kp T.b_Q8 (ae (qv 0) (ae (qv 1) ah af) af)))
   (ag (cE 3 rY.nd (cO (IG T) hr T.m_Q2 T.F_Q2.kp T.b_Q2 (ae (qv 2) (ae (cO (FY T) hr T.m_Q12 T.F_Q12.kp T.b_Q12 (ae (bZ (N':=["work"]) (src:=[none]) rfl (by exact (eZ (qv 0))) (fun _ _ _ _ _=>(by exact (by exact aH (i:=0) (by show List.Nodup (["work"]:List Str);decide +kernel) (by exact rfl) (by first | exact Or.inl rfl | exact Or.inr rfl)))) (fun _ _ _ _ _=>dk) (fun _ _ _ _ _=>(by exact (by exact (bL (bW (K:=K) (by exact rfl)) (by exact (qv 0)) aj (by exact fun _ _=>rfl))))) (by exact trivial) rfl (by decide +kernel) rfl (by decide +kernel) (by exact bB rfl trivial)) ah eO)) (ae (aQ aO (by rfl) T.z_len boot_len (ae (qv 1) ah af)) ah aR) aR) af)))
   (ao (aI (cj (ae (lS BE (qv 1) (kG (cf aA (qv 3) aj)) (kG (aJ dm (cf aA (qv 3) aj) aj))) (ae (bK bn (by rfl) T.z_tuple boot_tuple (ae (cO (zO T) hr T.m_Q50 T.F_Q50.kp T.b_Q50 (ae (qv 2) (ae (cf aA (qv 3) aj) (ae (cf aA (qv 3) aj) ah aD) aD) af)) ah aR)) ah aR) aD)))))) ?_
 extract_lets +lift
 try dsimp -zeta -zetaDelta only [Cx.nox,Cx.wish,bG]
 have nl:(ba ls).length=ls.length:=List.length_map _
 refine⟨_,rfl,_,rfl,.ref p,q,ws,ls,rfl,⟨p,xs,rfl,hS,al⟩,hw,hq,l24,fun l ys H1 s1 hl0 hl1 al1=>?_⟩
 have t1:=aN.same (K:=K) s1
 refine⟨_,rfl,_,rfl,p,rfl,⟨_,t1 _ _ hS⟩,fun D hD=>fP (K:=K) (P:=RV K) (ds:=ws) (f:=fun w:Wk=>w.2.2) (fun _ _ _ _ t p=>p.mono t) hD (ja (t1 _ _ hS)) al.len (by omega) (fun i x d H' hx hd s' R E kR=>?_) fun H2 ys2 s2 hD2 al2=>?_⟩
 ·obtain⟨d',hd',pw,xw,rfl,hSw,rx⟩:=al.at hx
  rw [hd] at hd'
  cases hd'
  have t':=aN.same (K:=K) (s1.trans s')
  exact⟨iz.set rfl,_,rfl,pw,_,_,_,rfl,rfl,t' _ _ hSw,rfl,kR _ _ (aB.refl _) (rx.mono t')⟩
 refine⟨D,ys2,ws,rfl,aU.of hD2,al2,hw,ok,fun l2 B H3 s3 hl2 b0 bd dv hl3=>?_⟩
 have s13:=s2.trans s3
 have t13:=aN.same (K:=K) s13
 have sH3:=s1.trans s13
 refine⟨_,rfl,q,_,rfl,.inr (aN.same (K:=K) sH3 _ _ hq),?_⟩
 refine⟨l,l2,ys,ws.map (bx ls),eC B ws,ls.length,(by rw [nl];rfl),s13.seq (aU.of hl1),al1.mono (fun _ _ m=>m.mono t13),by rw [List.length_map];exact hw,aU.of hl3,by unfold eC;rw [List.length_map,List.length_map],zK ok b0 bd,l1,l24,fun pp pl H4 s4 hpp bst=>?_⟩
 have sec:=bst.inn
 have c1:pl.1≤pl.2:=sec.1
 have c2:pl.2 < ls.length:=sec.2
 have sH4:=sH3.trans s4
 refine⟨_,rfl,_,rfl,pp,_,_,_,rfl,rfl,hpp,rfl,_,rfl,_,rfl,pp,_,_,_,rfl,rfl,hpp,rfl,_,_,rfl,rfl,_,rfl,q,_,rfl,aN.same (K:=K) sH4 _ _ hq,fun pc H5 s5 hpc=>?_⟩
 rw [show (pl.2:Int)+1=((pl.2+1:Nat):Int) by omega,CV (by omega) (by omega)] at hpc
 have t5:=aN.same (K:=K) s5
 have t45:=aN.same (K:=K) (s13.trans (s4.trans s5))
 refine⟨_,rfl,_,rfl,pp,_,_,_,rfl,rfl,t5 _ _ hpp,rfl,_,rfl,pp,_,_,_,rfl,rfl,t5 _ _ hpp,rfl,l,ys,ws.map (bx ls),pl,rfl,(s13.trans (s4.trans s5)).seq (aU.of hl1),al1.mono (fun _ _ m=>m.mono t45),by rw [List.length_map];exact hw,fun E H6 s6 hE hE6=>?_⟩
 refine⟨E,_,rfl,.inl ⟨aU.of hE6,fun pe hpe=>?_⟩⟩
 have s7:=ap hpe (.tup (ba (cc (ws.map (bx ls)) pl)))
 refine⟨oo,fun pr hpr=>?_⟩
 have s8:=ap hpr (.tup [.ref pc,.ref pe])
 refine k (.ref pr) B pl _ ((((sH4.trans s5).trans s6).trans s7).trans s8) b0 bd dv bst ?_
 exact⟨pr,pc,pe,rfl,bt.of ai,aN.same (K:=K) ((s6.trans s7).trans s8) _ _ hpc,aN.same (K:=K) s8 _ _ (bt.of ai)⟩
theorem Fz (T:d8 K mg t):bo P w K mg base dE 4 t.a_Q42 t.d_Q42 ["works"] (vC K):=by
 refine T.F_Q42.ok i4 (fun vs H Q E h=>?_) (fun cdv A outer s H vs Q E hr h=>?_)
 ·obtain⟨_,_,rfl,_⟩:=h;rfl
 obtain⟨v,ws,rfl,⟨p,xs,rfl,hS,al⟩,hw,ok,k⟩:=h
 refine db.ok (ag (cE 1 i4.nd (ck ah))
   (ag (cE 2 i4.nd (bK (rn rfl) (by rfl) T.z_tuple boot_tuple (ae (ut rfl T.z_range (ae (c6 (v:=.int (24)) rfl T.m_TURNS ⟨_,rfl⟩) ah af)) ah aR)))
   (ag (cE 3 i4.nd (aQ aO (by rfl) T.z_len boot_len (ae (qv 0) ah af)))
   (ag (jj PassesOwn.never (bj jm (qv 3) aj (bi _))
   (ag (cE 4 i4.nd (cO (FH T) hr T.m_Q33 T.F_Q33.kp T.b_Q33 (ae (qv 0) (ae (qv 2) ah af) af)))
   (ag (cD (fO PySem.F.plainAttrs_list PySem.F.slot_list_append PySem.F.type_list_append bU (qv 1) (ae (qv 4) ah af)))
   (ag (cE 2 i4.nd (bK bn (by rfl) T.z_tuple boot_tuple (ae (bZ (N':=["turn", "layer"]) (src:=[none,some 4]) rfl (by exact (eZ (qv 2))) (fun _ _ _ _ _=>(by exact (by exact aH (i:=0) (by show List.Nodup (["turn", "layer"]:List Str);decide +kernel) (by exact rfl) (by first | exact Or.inl rfl | exact Or.inr rfl)))) (fun _ _ _ _ _=>(dQ (bj (mX (K:=K) (by exact rfl)) (by exact (qv 0)) (by exact (bL (bW (K:=K) (by exact rfl)) (by exact (qv 1)) aj (by exact fun _ _=>rfl))) (by with_unfolding_all rfl)))) (fun _ _ _ _ _=>(by exact (by exact (qv 0)))) (by exact⟨rfl,rfl,rfl,rfl,trivial⟩) rfl (by decide +kernel) rfl (by decide +kernel) (by exact bB rfl ⟨rfl,trivial⟩)) ah eO)))
   (ao (EW (i:=3) i4.nd rfl (by first | exact Or.inl rfl | exact Or.inr rfl) (aQ aO (by rfl) T.z_len boot_len (ae (cf aA (qv 4) aj) ah aD)) Gj))))))
   (ao (aI (bK bn (by rfl) T.z_tuple boot_tuple (ae (qv 1) ah af)))))))) ?_
 extract_lets +lift
 try dsimp -zeta -zetaDelta only [Cx.nox,Cx.wish,bG]
 have hlen:=al.len
 refine⟨(by show 0≤sizeLine;exact Nat.zero_le _),fun l h0=>?_⟩
 obtain⟨s0,hl0⟩:=pF h0 (.lst [])
 refine⟨_,rfl,fun pr hpr=>?_⟩
 have s1:=ap hpr (.rng 0 24)
 refine⟨pr,24,rfl,ai,by decide,fun q0 hq0=>?_⟩
 have s2:=ap hq0 (.tup ((B.upTo 24).map V.int))
 have hq0':bt K (aG (aG (aG H l (.lst [])) pr (.rng 0 24)) q0 (.tup ((B.upTo 24).map V.int))) q0 (ba (List.range 24)):=by
  have e:ba (List.range 24)=(B.upTo 24).map V.int:=by unfold ba B.upTo;rw [List.map_map];rfl
  rw [e]
  exact bt.of (ai (H:=aG (aG H l (.lst [])) pr (.rng 0 24)) (a:=q0) (o:=.tup ((B.upTo 24).map V.int)))
 have s02:=(s0.trans s1).trans s2
 have hl2:=s2 _ _ (s1 _ _ hl0)
 refine⟨_,rfl,p,_,rfl,.inr (aN.same (K:=K) s02 _ _ hS),?_⟩
 have nf:=Cr ok
 let Iv1:Nat->L2.St->Hp->Prop:=fun m σ H'=>∃ (acc:List (List Nat×List Nat)) (ys:List V) (q:Addr) (ls:List Nat) (x5:Option V),σ=[some (.ref p),some (.ref l),some (.ref q),some (.int (uC ws ls)),x5]/\aB H H'/\H' l=some (.lst ys)/\cn (DV K H') ys acc/\bt K H' q (ba ls)/\ls.Nodup/\(∀ t∈ls,t < 24)/\ls.length≤24/\acc.length+uC ws ls≤ws.length/\(∀ y∈acc,j5 ws.length y)/\(∀ r,gY ws ls r->gY ws (List.range 24) (acc++r))/\m=uC ws ls
 refine⟨Iv1,⟨_,[],[],q0,List.range 24,none,(by rw [nf,hlen];rfl),s02,hl2,.nil,hq0',List.nodup_range,(fun t ht=>List.mem_range.mp ht),by decide,(by rw [nf];exact Nat.le_of_eq (Nat.zero_add _)),(fun y hy=>by cases hy),(fun r h=>h),rfl⟩,?_⟩
 rintro m σ H1 ⟨acc,ys,q,ls,x5,rfl,sm,hl1,al1,hq,nd,lt,l24,few,lok,con,rfl⟩
 refine⟨_,rfl,_,_,rfl,rfl,_,rfl,?_⟩
 by_cases c:uC ws ls=0
 ·refine cT (by omega) ?_
  have ly:=con [] (.nil c)
  rw [List.append_nil] at ly
  refine⟨_,rfl,l,_,rfl,.inl ⟨aU.of hl1,fun pt hpt=>?_⟩⟩
  have s5:=ap hpt (.tup ys)
  exact k (.ref pt) acc _ (sm.trans s5) ⟨pt,ys,rfl,bt.of ai,al1.mono fun _ _ m=>m.mono (aN.same s5)⟩ ly lok (by omega)
 ·refine d7 (by omega) ?_
  refine⟨_,fun _ _ z=>z,?_⟩
  have ln1:1≤ls.length:=by
   cases ls with
   | nil=>exact absurd (FZ ws) c
   | cons a r=>exact Nat.succ_le_succ (Nat.zero_le _)
  refine⟨_,rfl,_,rfl,.ref p,q,ws,ls,rfl,⟨p,xs,rfl,aN.same (K:=K) sm _ _ hS,al.mono fun _ _ m=>m.mono (aN.same sm)⟩,hw,ok,hq,ln1,l24,fun x B pl H2 s2 b0 bd dv bst lv=>?_⟩
  have it:A9 ws ls pl:=Gi ok (bst.scale b0 (by decide) fun q=>nv _ fun i _=>qa ok dv i) c
  have sec:=CI it
  have hl2:=s2 _ _ hl1
  have hy:=al1.len
  have sm2:=sm.trans s2
  have lyo:j5 ws.length (gP ws ls pl):=Ac sec l24 lt
  refine⟨_,rfl,.inl ⟨rfl,_,aU.of hl2⟩,_,rfl,l,_,_,rfl,rfl,hl2,aY (by omega),?_⟩
  have t3:aN K H2 (aG H2 l (.lst (ys++[x]))):=aN.up hl2 _
  have sm3:aB H (aG H2 l (.lst (ys++[x]))):=fun b o e=>by rw [az (aK e h0)];exact sm2 _ _ e
  have hl3:aG H2 l (.lst (ys++[x])) l=some (.lst (ys++[x])):=ai
  have al3:cn (DV K (aG H2 l (.lst (ys++[x])))) (ys++[x]) (acc++[gP ws ls pl]):=(al1.mono fun _ _ m=>m.mono ((aN.same s2).trans t3)).snoc (lv.mono t3)
  have lv3:=lv.mono t3
  have hq3:=t3 _ _ (aN.same (K:=K) s2 _ _ hq)
  generalize aG H2 l _=H3 at sm3 hl3 al3 lv3 hq3 ⊢
  obtain⟨pL,a,b,rfl,hpL,ha,hb⟩:=lv3
  have nl:(ba ls).length=ls.length:=List.length_map _
  refine⟨_,rfl,q,rfl,⟨_,hq3⟩,fun D hD=>cL (ja hq3) (fun i=>!(cQ ls pl).contains (ls.getD i 0)) (fun i=>V.int (ls.getD i 0:Nat)) hD (by omega) (fun i x H' hi s' hx R E kR kE=>?_) fun H4 s4 h4=>?_⟩
  ·unfold ba at hx
   rw [List.getElem?_map] at hx
   obtain⟨z,hz,rfl⟩:=Option.map_eq_some_iff.mp hx
   rw [av 0 hz] at kR kE
   have t':=aN.same (K:=K) s'
   refine⟨iz.set rfl,_,rfl,_,rfl,pL,_,_,_,rfl,rfl,t' _ _ hpL,rfl,a,_,rfl,.inr (t' _ _ ha),rfl,Av _,_,rfl,?_⟩
   have e:Gn (.int (z:Nat)) (ba (gP ws ls pl).1)=(cQ ls pl).contains z:=CK z (cQ ls pl)
   cases cz:(cQ ls pl).contains z with
   | true=>exact qV (by show (!Gn (.int (z:Nat)) (ba (gP ws ls pl).1))=false;rw [e,cz];rfl) (kE (by rw [cz];rfl) _ (aB.refl _))
   | false=>exact nM (by show (!Gn (.int (z:Nat)) (ba (gP ws ls pl).1))=true;rw [e,cz];rfl) ⟨_,rfl,kR (by rw [cz];rfl) _ (aB.refl _)⟩
  rw [nl,fh 0 (fun t=>!(cQ ls pl).contains t) (fun t:Nat=>V.int t)] at h4
  replace h4:H4 D=some (.lst (ba (dj ls pl))):=h4
  refine⟨D,_,rfl,.inl ⟨aU.of h4,fun qn hqn=>?_⟩⟩
  have s5:=ap hqn (.tup (ba (dj ls pl)))
  have hqn5:bt K _ qn (ba (dj ls pl)):=bt.of (ai (H:=H4) (a:=qn) (o:=.tup (ba (dj ls pl))))
  have s35:=s4.trans s5
  generalize aG H4 qn _=H5 at s35 hqn5 ⊢
  have t5:=aN.same (K:=K) s35
  have rst:=Cq (ws:=ws) nd sec
  have hp:=it.held
  have lb:(ba (gP ws ls pl).2).length=(cc (ws.map (bx ls)) pl).length:=List.length_map _
  refine⟨_,rfl,_,rfl,pL,_,_,_,rfl,rfl,t5 _ _ hpL,rfl,b,_,rfl,.inr (t5 _ _ hb),_,_,rfl,rfl,?_⟩
  have ew:((uC ws ls:Nat):Int) - ((ba (gP ws ls pl).2).length:Int)=((uC ws (dj ls pl):Nat):Int):=by rw [lb];omega
  have rl:(dj ls pl).length≤ls.length:=List.length_filter_le _ _
  refine⟨_,?_,acc++[gP ws ls pl],ys++[.ref pL],qn,dj ls pl,_,(by rw [← ew];rfl),sm3.trans s35,s35 _ _ hl3,al3.mono (fun _ _ m=>m.mono t5),hqn5,BJ nd pl,(fun t ht=>lt t (List.mem_filter.mp ht).1),by omega,(by rw [List.length_append];show acc.length+1+_≤_;omega),(fun y hy=>?_),(fun r hr=>?_),rfl⟩
  ·omega
  ·rcases List.mem_append.mp hy with h | h
   ·exact lok y h
   ·rw [List.mem_singleton.mp h];exact lyo
  ·have:=con _ (gY.cons it hr)
   rw [List.append_assoc]
   exact this
theorem IF (T:d8 K mg t):bo P w K mg base dE 4 t.a_Q3 t.d_Q3 ["works", "layer"] (jP K):=by
 refine T.F_Q3.ok HQ (fun vs H Q E h=>?_) (fun cdv A outer s H vs Q E hr h=>?_)
 ·obtain⟨_,_,_,_,rfl,_⟩:=h;rfl
 obtain⟨v,x,ws,y,rfl,⟨p,xs,rfl,hS,al⟩,hw,ok,lv,lok,k⟩:=h
 refine db.ok (ao (aI (cO (Fv T) hr T.m_Q49 T.F_Q49.kp T.b_Q49 (ae (cO (Fx T) hr T.m_Q46 T.F_Q46.kp T.b_Q46 (ae (bZ (N':=["number", "works"]) (src:=[none,some 0]) rfl (by exact (eZ (bL aA (qv 1) aj (fun _ _=>rfl)))) (fun _ _ _ _ _=>(by exact (by exact aH (i:=0) (by show List.Nodup (["number", "works"]:List Str);decide +kernel) (by exact rfl) (by first | exact Or.inl rfl | exact Or.inr rfl)))) (fun _ _ _ _ _=>dk) (fun _ _ _ _ _=>(by exact (by exact (bL (bW (K:=K) (by exact rfl)) (by exact (bL (bW (K:=K) (by exact rfl)) (by exact (qv 1)) (by exact (qv 0)) (by exact fun _ _=>rfl))) aj (by exact fun _ _=>rfl))))) (by exact⟨rfl,rfl,rfl,rfl,trivial⟩) rfl (by decide +kernel) rfl (by decide +kernel) (by exact bB rfl ⟨rfl,trivial⟩)) ah eO)) (ae (cj (ae (aQ aO (by rfl) T.z_len boot_len (ae (bL aA (qv 1) aj (fun _ _=>rfl)) ah aD)) (ae aj ah aT) aR)) ah dY) aR)))) ?_
 extract_lets +lift
 try dsimp -zeta -zetaDelta only [Cx.nox,Cx.wish,bG]
 have hSl:=al.len
 obtain⟨pL,a,b,rfl,hpL,ha,hb⟩:=lv
 have nb:(ba y.2).length=y.2.length:=List.length_map _
 have na:(ba y.1).length=y.1.length:=List.length_map _
 have len:=lok.len
 refine⟨_,rfl,pL,_,_,_,rfl,rfl,hpL,rfl,b,rfl,⟨_,hb⟩,fun D hD=>fP (K:=K) (P:=RV K) (ds:=y.2) (f:=fun i=>(ws.getD i bC).2.2) (fun _ _ _ _ t p=>p.mono t) hD (ja hb) nb (by omega) (fun i x d H' hx hd s' R E kR=>?_) fun H2 ys2 s2 hD2 al2=>?_⟩
 ·have hx':(ba y.2)[i]?=some (V.int (d:Nat)):=by unfold ba;rw [List.getElem?_map,hd];rfl
  rw [hx] at hx'
  cases hx'
  have hdl:=lok.num d (List.mem_of_getElem? hd)
  obtain⟨xw,hxw⟩:∃ xw,xs[d]?=some xw:=⟨_,List.getElem?_eq_getElem (by omega)⟩
  obtain⟨w,hwd,pw,xa,rfl,hSw,rx⟩:=al.at hxw
  rw [av bC hwd] at kR
  have t':=aN.same (K:=K) s'
  exact⟨iz.set rfl,_,rfl,_,rfl,p,_,_,_,rfl,rfl,t' _ _ hS,bh hxw,pw,_,_,_,rfl,rfl,t' _ _ hSw,rfl,kR _ _ (aB.refl _) (rx.mono t')⟩
 have wf:=GC (n:=ws.length) ok lok
 have la:(gW ws y).length=y.2.length:=List.length_map _
 have am:∀ r∈gW ws y,Bq (84 * 5354228880 ^ 23) 12 r:=fun r hr=>by
  obtain⟨i,hi,rfl⟩:=List.mem_map.mp hr
  have hl:=lok.num i hi
  rw [av bC (List.getElem?_eq_getElem hl)]
  exact uS (ok _ (List.getElem_mem hl)).am
 have sq:=((kC (by decide) am).mono (Nat.dvd_refl _) (show 12 * (gW ws y).length≤768 by omega)).wf (n:=800) (by decide) (by decide) (by decide)
 refine⟨D,ys2,gW ws y,760,(84 * 5354228880 ^ 23),rfl,.inl (aU.of hD2),C7 al2,fun r hr=>⟨wf r hr,(am r hr).dvd⟩,by decide,by decide,by omega,by decide,fun v' H3 s3 rv3=>?_⟩
 have t23:=aN.same (K:=K) (s2.trans s3)
 refine⟨_,rfl,pL,_,_,_,rfl,rfl,t23 _ _ hpL,rfl,a,_,rfl,.inr (t23 _ _ ha),oo,fun pt hpt=>?_⟩
 rw [na]
 have s4:=ap hpt (.tup [.int (y.1.length:Int),.int 1])
 have pos:=lok.pos
 have few:=lok.few
 refine⟨v',.ref pt,eW (gW ws y),800,y.1.length,rfl,rv3.mono (aN.same s4),RV.of ai,sq,pos,few,by omega,fun u H5 s5 r5=>?_⟩
 exact k u H5 (((s2.trans s3).trans s4).trans s5) r5
theorem DD (T:d8 K mg t):bo P w K mg base dE 5 t.a_Q9 t.d_Q9 ["works"] (kj K):=by
 refine T.F_Q9.ok qC (fun vs H Q E h=>?_) (fun cdv A outer s H vs Q E hr h=>?_)
 ·obtain⟨_,_,rfl,_⟩:=h;rfl
 obtain⟨v,ws,rfl,⟨p,xs,rfl,hS,al⟩,hw,ok,k⟩:=h
 refine db.ok (ag (cE 1 qC.nd (aJ uz (ck (ae (c6 (v:=.ref t.c_NOUGHT) rfl T.m_NOUGHT rfl) ah af)) (c6 (v:=.int (24)) rfl T.m_TURNS ⟨_,rfl⟩)))
   (ag (cG PassesOwn.never rfl (eZ (cO (Fz T) hr T.m_Q42 T.F_Q42.kp T.b_Q42 (ae (qv 0) ah af))) (aH (i:=2) qC.nd rfl (by first | exact Or.inl rfl | exact Or.inr rfl))
   (ag (cE 3 qC.nd (cO (IF T) hr T.m_Q3 T.F_Q3.kp T.b_Q3 (ae (qv 0) (ae (qv 2) ah af) af)))
   (ao (cG PassesOwn.never rfl (eZ (cf aA (qv 2) aj)) (aH (i:=4) qC.nd rfl (by first | exact Or.inl rfl | exact Or.inr rfl))
   (ao (o0 (qv 3) (o4 (qv 1) (qv 4) jh)))))))
   (ao (aI (bK bn (by rfl) T.z_tuple boot_tuple (ae (qv 1) ah af)))))) ?_
 extract_lets +lift
 try dsimp -zeta -zetaDelta only [Cx.nox,Cx.wish,bG]
 refine⟨Hd,fun l0 h0=>?_⟩
 have s0:=ap h0 (.lst [.ref t.c_NOUGHT])
 refine⟨l0,.ref t.c_NOUGHT,24,rfl,rfl,ai,by decide,fun l hl=>?_⟩
 have s1:=ap hl (.lst (List.replicate 24 (.ref t.c_NOUGHT)))
 have s01:=s0.trans s1
 have hln:H l=none:=by
  cases e:H l with
  | none=>rfl
  | some o=>rw [s0 _ _ e] at hl;cases hl
 have hl1:aG (aG H l0 (.lst [.ref t.c_NOUGHT])) l (.lst (List.replicate 24 (.ref t.c_NOUGHT))) l=some (.lst (List.replicate 24 (.ref t.c_NOUGHT))):=ai
 generalize aG (aG H l0 _) l _=H1 at hl1 s01 ⊢
 refine⟨_,rfl,.ref p,ws,rfl,⟨p,xs,rfl,aN.same (K:=K) s01 _ _ hS,al.mono fun _ _ m=>m.mono (aN.same s01)⟩,hw,ok,fun x lys H2 s2 lv ly lok ll=>?_⟩
 obtain⟨pl,xl,rfl,hpl,all⟩:=lv
 have hl2:=s2 _ _ hl1
 have s02:=s01.trans s2
 have wvS:∀ H',aB H H'->eD K H' (.ref p) ws:=fun H' s=>⟨p,xs,rfl,aN.same (K:=K) s _ _ hS,al.mono fun _ _ m=>m.mono (aN.same s)⟩
 have smS:∀ H',dB l H2 H'->aB H H':=fun H' S b o e=>S.keep b o (fun z=>by subst z;rw [hln] at e;cases e) (s02 _ _ e)
 let Iv1:Nat->L2.St->Hp->Prop:=fun i σ H'=>∃ (ys:List V) (x3 x4 x5:Option V),σ=[some (.ref p),some (.ref l),x3,x4,x5]/\dB l H2 H'/\H' l=some (.lst ys)/\cn (RV K H') ys (aP ws (lys.take i))
 refine⟨pl,rfl,⟨_,hpl⟩,ik (K:=K) (a:=pl) (xs:=xl) Iv1 ⟨_,none,none,none,rfl,dB.refl ⟨_,hl2⟩,hl2,cn.rep ⟨_,rfl,T.q_NOUGHT _⟩ 24⟩ (fun i σ H' _ ⟨_,_,_,_,_,S,_⟩=>aN.step (K:=K) S _ _ hpl) ?_ ?_⟩
 ·rintro i x σ H3 hx ⟨ys,x3,x4,x5,rfl,S3,hl3,al3⟩
  obtain⟨y,hy,lvy⟩:=all.at hx
  have lyo:=lok y (List.mem_of_getElem? hy)
  have sm3:=smS _ S3
  have lv3:=lvy.mono (aN.step (K:=K) S3)
  refine⟨_,rfl,_,rfl,.ref p,x,ws,y,rfl,wvS _ sm3,hw,ok,lv3,lyo,fun sv H4 s4 rv4=>?_⟩
  have hl4:=s4 _ _ hl3
  have lv4:=lv3.mono (aN.same s4)
  obtain⟨pL,a,b,rfl,hpL,ha,hb⟩:=lv4
  have S4:=S3.trans (dB.same s4 ⟨_,hl3⟩)
  have al4:=al3.mono fun _ _ m=>m.mono (aN.same s4)
  have ly24:=al4.len
  rw [show (aP ws (lys.take i)).length=24 by unfold aP;rw [ib];rfl] at ly24
  let Iv2:Nat->L2.St->Hp->Prop:=fun j σ H'=>∃ (zs:List V) (x5:Option V),σ=[some (.ref p),some (.ref l),some (.ref pL),some sv,x5]/\dB l H4 H'/\H' l=some (.lst zs)/\zs.length=24/\cn (RV K H') zs (ix (c8 ws y) (aP ws (lys.take i)) (y.1.take j))
  refine⟨_,rfl,pL,_,_,_,rfl,rfl,hpL,rfl,a,rfl,⟨_,ha⟩,ik (K:=K) (a:=a) (xs:=ba y.1) Iv2 ⟨ys,_,rfl,dB.refl ⟨_,hl4⟩,hl4,ly24,al4⟩ (fun j σ H' _ ⟨_,_,_,S,_⟩=>aN.step (K:=K) S _ _ ha) ?_ ?_⟩
  ·rintro j tv σ H5 ht ⟨zs,x5,rfl,S5,hl5,zl,al5⟩
   unfold ba at ht
   rw [List.getElem?_map] at ht
   obtain⟨tt,htt,rfl⟩:=Option.map_eq_some_iff.mp ht
   have lt:=lyo.lt tt (List.mem_of_getElem? htt)
   refine⟨_,rfl,_,rfl,_,rfl,l,zs,_,tt,rfl,rfl,hl5,pM (by omega),?_⟩
   have t6:aN K H5 (aG H5 l (.lst (zs.set tt sv))):=aN.up hl5 _
   refine⟨_,_,rfl,S5.trans (dB.up hl5),ai,by rw [List.length_set];exact zl,?_⟩
   have e:ix (c8 ws y) (aP ws (lys.take i)) (y.1.take (j+1))=(ix (c8 ws y) (aP ws (lys.take i)) (y.1.take j)).set tt (c8 ws y):=by
    unfold ix
    rw [List.take_add_one,htt,List.foldl_append]
    rfl
   rw [e]
   exact cn.setI (rv4.mono ((aN.step (K:=K) S5).trans t6)) tt (al5.mono fun _ _ m=>m.mono t6)
  ·rintro σ H5 ⟨zs,x5,rfl,S5,hl5,zl,al5⟩
   rw [show (ba y.1).length=y.1.length from List.length_map _,List.take_length] at al5
   refine⟨zs,_,_,_,rfl,S4.trans S5,hl5,?_⟩
   have e:aP ws (lys.take (i+1))=ix (c8 ws y) (aP ws (lys.take i)) y.1:=by
    unfold aP
    rw [List.take_add_one,hy,List.foldl_append]
    rfl
   rw [e]
   exact al5
 ·rintro σ H3 ⟨ys,x3,x4,x5,rfl,S3,hl3,al3⟩
  rw [all.len,List.take_length] at al3
  refine⟨_,rfl,l,_,rfl,.inl ⟨aU.of hl3,fun pt hpt=>?_⟩⟩
  have s5:=ap hpt (.tup ys)
  exact k pt ys lys _ ((smS _ S3).trans s5) (bt.of ai) (al3.mono fun _ _ m=>m.mono (aN.same s5)) ly
theorem IE (T:d8 K mg t):bo P w K mg base dE 1 t.a_Q4 t.d_Q4 ["works", "leanings", "waiting"] (jQ K):=by
 refine T.F_Q4.ok uk (fun vs H Q E h=>?_) (fun cdv A outer s H vs Q E hr h=>?_)
 ·obtain⟨_,_,_,_,_,_,rfl,_⟩:=h;rfl
 obtain⟨v,l,wl,ws,rows,ls,rfl,⟨p,xs,rfl,hS,al⟩,w8,m0,hwl,lt,ne,l8,k⟩:=h
 refine db.ok (ag (cE 3 uk.nd (aQ (nV rfl) (by rfl) T.z_min boot_min (ae (bZ (N':=["number", "works"]) (src:=[none,some 0]) rfl (by exact (dS (qv 2))) (fun _ _ _ _ _=>(by exact (by exact aH (i:=0) (by show List.Nodup (["number", "works"]:List Str);decide +kernel) (by exact rfl) (by first | exact Or.inl rfl | exact Or.inr rfl)))) (fun _ _ _ _ _=>dk) (fun _ _ _ _ _=>(by exact (by exact (bL (bW (K:=K) (by exact rfl)) (by exact (bL (bW (K:=K) (by exact rfl)) (by exact (qv 1)) (by exact (qv 0)) (by exact fun _ _=>rfl))) aj (by exact fun _ _=>rfl))))) (by exact⟨rfl,rfl,rfl,rfl,trivial⟩) rfl (by decide +kernel) rfl (by decide +kernel) (by exact bB rfl ⟨rfl,trivial⟩)) ah eO)))
   (ag (cE 4 uk.nd (bZ (N':=["number", "earliest", "works"]) (src:=[none,some 3,some 0]) rfl (by exact (dS (qv 2))) (fun _ _ _ _ _=>(by exact (by exact aH (i:=0) (by show List.Nodup (["number", "earliest", "works"]:List Str);decide +kernel) (by exact rfl) (by first | exact Or.inl rfl | exact Or.inr rfl)))) (fun _ _ _ _ _=>(dQ (bj nH (by exact (bL (bW (K:=K) (by exact rfl)) (by exact (bL (bW (K:=K) (by exact rfl)) (by exact (qv 2)) (by exact (qv 0)) (by exact fun _ _=>rfl))) aj (by exact fun _ _=>rfl))) (by exact (qv 1)) (bi _)))) (fun _ _ _ _ _=>(by exact (by exact (qv 0)))) (by exact⟨rfl,rfl,rfl,rfl,⟨rfl,rfl,rfl,rfl,trivial⟩⟩) rfl (by decide +kernel) rfl (by decide +kernel) (by exact bB rfl ⟨rfl,⟨rfl,trivial⟩⟩)))
   (ag (yY (i:=5) (N':=["number", "like", "leanings"]) (y := "number") (src:=[none,some 4,some 1]) uk.nd rfl (by first | exact Or.inl rfl | exact Or.inr rfl) rfl (by exact (dS (qv 4))) (fun _ _ _ _ _=>(by exact (by exact aH (i:=0) (by show List.Nodup (["number", "like", "leanings"]:List Str);decide +kernel) (by exact rfl) (by first | exact Or.inl rfl | exact Or.inr rfl)))) (fun _ _ _ _ _=>(dQ (fD (cU (by exact (aQ (tz (K:=K) (by exact rfl) (by exact rfl)) (by exact rfl) T.z_any boot_any (ae (by exact (vM (N':=["base", "leanings", "number"]) (src:=[none,some 2,some 0]) (by exact rfl) (by exact rfl) (by exact (y3 (K:=K) (by exact rfl) (by exact (qv 1)))) (by exact fun _ _ _ _ _=>(by exact (by exact aH (i:=0) (by show List.Nodup (["base", "leanings", "number"]:List Str);decide +kernel) (by exact rfl) (by first | exact Or.inl rfl | exact Or.inr rfl)))) (by exact fun _ _ _ _ _=>dk) (by exact fun _ _ _ _ _=>(by exact (by exact (bL (cB (K:=K) (by exact rfl)) (by exact (bL (cB (K:=K) (by exact rfl)) (by exact (qv 1)) (by exact (qv 2)) (by exact fun _ _=>rfl))) (by exact (qv 0)) (by exact fun _ _=>rfl))))) (by exact⟨rfl,rfl,rfl,rfl,⟨rfl,rfl,rfl,rfl,trivial⟩⟩) (by decide +kernel) (by exact rfl) (by decide +kernel) (by exact bB rfl ⟨rfl,⟨rfl,trivial⟩⟩))) ah eO))))))) (fun _ _ _ _ _=>(by exact (by exact (qv 0)))) (by exact⟨rfl,rfl,rfl,rfl,⟨rfl,rfl,rfl,rfl,trivial⟩⟩) rfl (fun _=>rfl) (fun _=>rfl) rfl (by decide +kernel) (by exact wB rfl ⟨rfl,⟨rfl,trivial⟩⟩ rfl))
   (ao (aI (cf b8 (qv 5) aj)))))) ?_
 extract_lets +lift
 try dsimp -zeta -zetaDelta only [Cx.nox,Cx.wish,bG]
 have lx:xs.length=ws.length:=al.len
 have lv:(ba ls).length=ls.length:=List.length_map _
 have pos:0 < ls.length:=List.length_pos_iff.mpr ne
 have at_:∀ {H':Hp},aB H H'->∀ i,i < ws.length->∃ pw x,xs[i]?=some (.ref pw)/\bt K H' pw [.int (ws.getD i bC).1,.int (be ws i:Nat),x]:=fun {H'} s i hi=>by
  have e:xs[i]?=some (xs[i]'(by omega)):=List.getElem?_eq_getElem _
  obtain⟨w,hw,pw,x,ex,hSw,_⟩:=al.at e
  refine⟨pw,x,by rw [e,ex],?_⟩
  have g:ws.getD i bC=w:=av bC hw
  unfold be
  rw [g]
  exact aN.same s _ _ hSw
 have nat_:∀ {zs:List Nat} {i:Nat} {x:V},(ba zs)[i]?=some x->∃ n,zs[i]?=some n/\x=.int (n:Nat):=fun {zs i x} h=>by
  unfold ba at h
  rw [List.getElem?_map] at h
  obtain⟨n,hn,rfl⟩:=Option.map_eq_some_iff.mp h
  exact⟨n,hn,rfl⟩
 refine⟨_,rfl,wl,rfl,⟨_,hwl⟩,fun D1 hD1=>cL (f7 hwl) (fun _=>true) (fun i=>V.int (be ws (ls.getD i 0):Nat)) hD1 (by omega) (fun i x H' hi sm hx Rk E kR _=>?_) fun H1 s1 h1=>?_⟩
 ·obtain⟨n,hn,rfl⟩:=nat_ hx
  obtain⟨pw,y,ex,hSw⟩:=at_ sm n (lt n (List.mem_of_getElem? hn))
  rw [av 0 hn] at kR
  exact⟨iz.set rfl,_,rfl,_,rfl,p,_,_,_,rfl,rfl,aN.same sm _ _ hS,bh ex,pw,_,_,_,rfl,rfl,hSw,rfl,kR rfl _ (aB.refl _)⟩
 have e1:((List.range (ba ls).length).filter fun _=>true).map (fun i=>V.int (be ws (ls.getD i 0):Nat))=(ls.map fun i=>((be ws i:Nat):Int)).map V.int:=by
  rw [lv,List.map_map]
  exact cR 0 (fun n=>V.int (be ws n:Nat)) ls
 rw [e1] at h1
 refine⟨D1,_,rfl,aU.of h1,by rw [List.length_map];exact pos,fun M hM hle=>?_⟩
 have key:∀ i,i∈ls->(((be ws i:Nat):Int)=M↔∀ j∈ls,be ws i≤be ws j):=fun i hi=>by
  constructor
  ·intro e j hj
   have:=hle _ (List.mem_map.mpr ⟨j,hj,rfl⟩)
   omega
  ·intro h
   obtain⟨j,hj,e⟩:=List.mem_map.mp hM
   have a:=h j hj
   have b:=hle _ (List.mem_map.mpr ⟨i,hi,rfl⟩)
   omega
 have hw1:aU K H1 wl (ba ls):=s1.seq hwl
 refine⟨_,rfl,wl,rfl,⟨_,hw1⟩,fun D2 hD2=>cL (f7 hw1) (fun i=>ls.all fun j=>decide (be ws (ls.getD i 0)≤be ws j)) (fun i=>V.int (ls.getD i 0:Nat)) hD2 (by omega) (fun i x H' hi sm hx Rk E kR kE=>?_) fun H2 s2 h2=>?_⟩
 ·obtain⟨n,hn,rfl⟩:=nat_ hx
  have sm':=s1.trans sm
  have mn:=List.mem_of_getElem? hn
  obtain⟨pw,y,ex,hSw⟩:=at_ sm' n (lt n mn)
  rw [av 0 hn] at kR kE
  refine⟨iz.set rfl,_,rfl,_,rfl,p,_,_,_,rfl,rfl,aN.same sm' _ _ hS,bh ex,pw,_,_,_,rfl,rfl,hSw,rfl,_,rfl,rfl,_,rfl,?_⟩
  by_cases c:((be ws n:Nat):Int)=M
  ·refine d7 (by rw [c]) ⟨_,rfl,kR ?_ _ (aB.refl _)⟩
   rw [List.all_eq_true]
   exact fun j hj=>decide_eq_true ((key n mn).mp c j hj)
  ·refine cT (fun z=>c (by injection z)) (kE ?_ _ (aB.refl _))
   cases q:ls.all fun j=>decide (be ws n≤be ws j) with
   | false=>rfl
   | true=>
    rw [List.all_eq_true] at q
    exact absurd ((key n mn).mpr fun j hj=>of_decide_eq_true (q j hj)) c
 have e2:((List.range (ba ls).length).filter fun i=>ls.all fun j=>decide (be ws (ls.getD i 0)≤be ws j)).map (fun i=>V.int (ls.getD i 0:Nat))=ba (gl ws ls):=by
  rw [lv]
  exact fh 0 (fun n=>ls.all fun j=>decide (be ws n≤be ws j)) (fun n=>V.int (n:Nat)) ls
 rw [e2] at h2
 have s12:=s1.trans s2
 have lkl:∀ i∈gl ws ls,i < ws.length:=fun i hi=>lt i (jp.mp hi).1
 have ll:(gl ws ls).length≤ls.length:=List.length_filter_le _ _
 have lk:(ba (gl ws ls)).length=(gl ws ls).length:=List.length_map _
 have hl2:aU K H2 D2 (ba (gl ws ls)):=aU.of h2
 generalize hlk:gl ws ls=lk_ at h2 hl2 lkl ll lk
 refine⟨_,rfl,D2,rfl,⟨_,hl2⟩,fun D3 hD3=>cL (f7 hl2) (fun _=>true) (fun i=>V.int (lk_.getD i 0:Nat)) hD3 (by omega) (fun i x H' hi sm hx Rk E kR _=>?_) fun H3 s3 h3=>?_⟩
 ·obtain⟨n,hn,rfl⟩:=nat_ hx
  have nl:=lkl n (List.mem_of_getElem? hn)
  have hl3:aU K H' D2 (ba lk_):=sm.seq hl2
  have mm:=m0.same (s12.trans sm)
  rw [av 0 hn] at kR
  refine⟨iz.set rfl,_,rfl,D2,rfl,⟨_,hl3⟩,fun D4 hD4=>cL (f7 hl3) (fun _=>true) (fun _=>V.bl false) hD4 (by omega) (fun j y H5 hj sm5 hy Rk2 E2 kR2 _=>?_) fun H6 s6 h6=>?_⟩
  ·obtain⟨b,hb,rfl⟩:=nat_ hy
   have m5:=mm.same sm5
   obtain⟨rr,hrr⟩:∃ r,rows[n]?=some r:=⟨_,List.getElem?_eq_getElem (by rw [mm.len];exact nl)⟩
   exact⟨iz.set rfl,_,rfl,_,rfl,l,_,_,_,rfl,rfl,aU.of m5.top,bh (show (rows.map V.ref)[n]?=some (V.ref rr) by rw [List.getElem?_map,hrr];rfl),_,rfl,rr,_,_,_,rfl,rfl,aU.of (m5.row n rr hrr),bh (oV (lkl b (List.mem_of_getElem? hb))),kR2 rfl _ (aB.refl _)⟩
  ·have e6:((List.range (ba lk_).length).filter fun _=>true).map (fun _=>V.bl false)=(lk_.map fun _=>false).map V.bl:=by
    rw [lk,List.map_map]
    exact cR 0 (fun _=>V.bl false) lk_
   rw [e6] at h6
   refine⟨D4,_,rfl,aU.of h6,_,rfl,?_⟩
   rw [List.any_map,show lk_.any (id ∘ fun _=>false)=false from List.any_eq_false.mpr fun _ _=>Bool.false_ne_true]
   exact nM (b:=!false) rfl ⟨_,rfl,kR rfl _ s6⟩
 have e3:((List.range (ba lk_).length).filter fun _=>true).map (fun i=>V.int (lk_.getD i 0:Nat))=ba lk_:=by
  rw [lk]
  exact cR 0 (fun n=>V.int (n:Nat)) lk_
 rw [e3] at h3
 have nx:=pE (ws:=ws) ne
 rw [hlk] at nx
 exact⟨_,rfl,D3,_,_,_,rfl,rfl,aU.of h3,bh (j:=0) (show (ba lk_)[0]?=some (V.int (j8 ws ls:Nat)) by unfold ba;rw [List.getElem?_map,nx];rfl),k _ (s12.trans s3)⟩
theorem FG (T:d8 K mg t):bo P w K mg base dE 3 t.a_Q34 t.d_Q34 ["works", "leans"] (ql K):=by
 refine T.F_Q34.ok lO (fun vs H Q E h=>?_) (fun cdv A outer s H vs Q E hr h=>?_)
 ·obtain⟨_,_,_,rfl,_⟩:=h;rfl
 obtain⟨v,b,ws,rfl,ak,k⟩:=h
 refine db.ok (ag (cE 2 lO.nd (cO (DE T) hr T.m_Q7 T.F_Q7.kp T.b_Q7 (ae (aQ aO (by rfl) T.z_len boot_len (ae (qv 0) ah af)) (ae (qv 1) ah af) aR)))
   (ag (cE 3 lO.nd (bK (tj rfl) (by rfl) T.z_list boot_list (ae (ut rfl T.z_range (ae (aQ aO (by rfl) T.z_len boot_len (ae (qv 0) ah af)) ah aR)) ah aR)))
   (ag (cE 4 lO.nd (ck ah))
   (ag (jj PassesOwn.never (bj jm (aQ aO (by rfl) T.z_len boot_len (ae (qv 3) ah af)) aj (bi _))
   (ag (cE 5 lO.nd (cO (IE T) hr T.m_Q4 T.F_Q4.kp T.b_Q4 (ae (qv 0) (ae (qv 2) (ae (qv 3) ah af) af) af)))
   (ag (cD (fO PySem.F.plainAttrs_list PySem.F.slot_list_remove PySem.F.type_list_remove Cy (qv 3) (ae (qv 5) ah af)))
   (ao (cD (fO PySem.F.plainAttrs_list PySem.F.slot_list_append PySem.F.type_list_append bU (qv 4) (ae (qv 5) ah af)))))))
   (ao (aI (qv 4))))))) ?_
 extract_lets +lift
 try dsimp -zeta -zetaDelta only [Cx.nox,Cx.wish,bG]
 obtain⟨p,xs,rfl,hS,al⟩:=id ak.wv
 have lx:xs.length=ws.length:=al.len
 have w8:=ak.w8
 refine⟨_,rfl,p,_,rfl,.inr hS,_,rfl,ws.length,b,(by rw [← lx];rfl),ak.lv,by omega,fun lm rows H1 s1 m1=>?_⟩
 have hS1:=aN.same (K:=K) s1 _ _ hS
 refine⟨_,rfl,p,_,rfl,.inr hS1,_,rfl,fun pr hpr=>?_⟩
 rw [lx]
 have s2:=ap hpr (.rng 0 ws.length)
 refine⟨pr,ws.length,rfl,ai,by omega,fun wl hwl=>?_⟩
 have s3:=ap hwl (.lst ((B.upTo ws.length).map V.int))
 have s23:=s2.trans s3
 have hw3:aG (aG H1 pr (.rng 0 ws.length)) wl (.lst ((B.upTo ws.length).map V.int)) wl=some (.lst ((B.upTo ws.length).map V.int)):=ai
 have wl0:H1 wl=none:=by
  cases e:H1 wl with
  | none=>rfl
  | some o=>rw [s2 _ _ e] at hwl;cases hwl
 generalize aG (aG H1 pr _) wl _=H3 at s23 hw3 ⊢
 refine⟨(by show 0≤sizeLine;exact Nat.zero_le _),fun lo hlo=>?_⟩
 have s4:=ap hlo (.lst [])
 have nlw:lo≠wl:=fun z=>by subst z;rw [hw3] at hlo;cases hlo
 have hw4:=s4 _ _ hw3
 have ho4:aG H3 lo (.lst []) lo=some (.lst []):=ai
 have s14:=s23.trans s4
 have lo0:H1 lo=none:=by
  cases e:H1 lo with
  | none=>rfl
  | some o=>rw [s23 _ _ e] at hlo;cases hlo
 have eup:(B.upTo ws.length).map V.int=ba (cC ws.length (aS ws 0)):=by
  show _=ba ((List.range ws.length).filter fun i=>!([]:List Nat).contains i)
  have e:(List.range ws.length).filter (fun i=>!([]:List Nat).contains i)=List.range ws.length:=List.filter_eq_self.mpr fun i _=>rfl
  rw [e]
  unfold B.upTo ba
  rw [List.map_map]
  rfl
 rw [eup] at hw4
 generalize aG H3 lo _=H4 at s14 hw4 ho4 ⊢
 have keep:∀ H',(∀ b o,b≠wl->b≠lo->H4 b=some o->H' b=some o)->aB H1 H':=fun H' kp b o e=>kp b o (fun z=>by subst z;rw [wl0] at e;cases e) (fun z=>by subst z;rw [lo0] at e;cases e) (s14 _ _ e)
 let Iv1:Nat->L2.St->Hp->Prop:=fun m σ H'=>∃ (i:Nat) (x5:Option V),σ=[some (.ref p),some (.ref b),some (.ref lm),some (.ref wl),some (.ref lo),x5]/\(∀ b o,b≠wl->b≠lo->H4 b=some o->H' b=some o)/\H' wl=some (.lst (ba (cC ws.length (aS ws i))))/\H' lo=some (.lst (ba (aS ws i)))/\i≤ws.length/\m=ws.length - i
 refine⟨Iv1,⟨_,0,none,rfl,fun _ _ _ _ e=>e,hw4,ho4,Nat.zero_le _,rfl⟩,?_⟩
 rintro m σ H5 ⟨i,x5,rfl,kp,hw5,ho5,hi,rfl⟩
 have oi:=dU (ws:=ws) i hi
 have s5:=keep H5 kp
 have wl_:=oi.wl
 refine⟨_,rfl,wl,_,rfl,.inl (aU.of hw5),_,_,rfl,rfl,_,rfl,?_⟩
 have lnv:(ba (cC ws.length (aS ws i))).length=(cC ws.length (aS ws i)).length:=List.length_map _
 by_cases c:i < ws.length
 ·refine d7 (by omega) ⟨_,fun _ _ z=>z,?_⟩
  obtain⟨oi1,j,hj,ej⟩:=oi.step c
  refine⟨_,rfl,_,rfl,_,rfl,.ref p,lm,wl,ws,rows,cC ws.length (aS ws i),rfl,⟨p,xs,rfl,aN.same s5 _ _ hS1,(al.mono fun _ _ z=>z.mono (aN.same s1)).mono fun _ _ z=>z.mono (aN.same s5)⟩,w8,m1.same s5,aU.of hw5,(fun n hn=>(fe.mp hn).1),oi.ne c,by omega,fun H6 s6=>?_⟩
  refine⟨_,rfl,.inl ⟨rfl,_,aU.of (s6 _ _ hw5)⟩,_,rfl,wl,_,j,_,rfl,rfl,s6 _ _ hw5,hj,Aw (t0 _ _) hj,?_⟩
  rw [ej]
  have ho6:=s6 _ _ ho5
  have ho7:aG H6 wl (.lst ((cC ws.length (aS ws (i+1))).map fun i:Nat=>V.int i)) lo=some (.lst (ba (aS ws i))):=by rw [az nlw];exact ho6
  refine⟨_,rfl,.inl ⟨rfl,_,aU.of ho7⟩,_,rfl,lo,_,_,rfl,rfl,ho7,aY (by unfold ba;rw [List.length_map,oi.len];omega),?_⟩
  refine⟨_,(by omega),i+1,_,rfl,fun b o n1 n2 e=>?_,?_,?_,c,rfl⟩
  ·rw [az n2,az n1]
   exact s6 _ _ (kp b o n1 n2 e)
  ·rw [az (Ne.symm nlw),ai]
   rfl
  ·rw [ai]
   show some (HO.lst (ba (aS ws i)++[_]))=some (HO.lst (ba (aS ws i++[_])))
   unfold ba
   rw [List.map_append]
   rfl
 ·refine cT (by omega) ?_
  have e:i=ws.length:=by omega
  subst e
  exact⟨_,rfl,k lo H5 (s1.trans s5) (by
   cases e:H lo with
   | none=>rfl
   | some o=>rw [s1 _ _ e] at lo0;cases lo0) ho5⟩
theorem FP (T:d8 K mg t):bo P w K mg base dE 4 t.a_Q24 t.d_Q24 ["works", "order", "left", "turn", "speed"] (oI K):=by
 refine T.F_Q24.ok jS (fun vs H Q E h=>?_) (fun cdv A outer s H vs Q E hr h=>?_)
 ·obtain⟨_,_,_,_,_,_,_,_,_,_,rfl,_⟩:=h;rfl
 obtain⟨v,u,o,lf,ws,ord,xs,rs,t_,sp,rfl,⟨p,xw,rfl,hS,al⟩,ho,hlf,nol,alr,lr,okr,hu,asp,olt,o8,k⟩:=h
 refine db.ok (ag (cE 5 jS.nd (ck ah))
   (ag (cE 6 jS.nd (qv 4))
   (ag (cG PassesOwn.never rfl (dS (qv 1)) (aH (i:=7) jS.nd rfl (by first | exact Or.inl rfl | exact Or.inr rfl))
   (ag (cM (fD (cU (cO (zT T) hr T.m_Q23 T.F_Q23.kp T.b_Q23 (ae (cf aA (qv 0) (qv 7)) (ae (qv 3) ah af) aD)))) (ao qF) bH)
   (ag (cE 8 jS.nd (cO (FA T) hr T.m_Q41 T.F_Q41.kp T.b_Q41 (ae (cf b8 (qv 2) (qv 7)) (ae (qv 6) ah af) aD)))
   (ao (cM (bj (pA hr) (qv 8) (c6 (v:=.ref t.c_NOUGHT) rfl T.m_NOUGHT rfl) (bi _)) (ag (cD (fO PySem.F.plainAttrs_list PySem.F.slot_list_append PySem.F.type_list_append bU (qv 5) (ae (cj (ae (qv 7) (ae (qv 8) ah af) af)) ah dY)))
   (ag (o0 (cO (sL T) hr T.m_Q44 T.F_Q44.kp T.b_Q44 (ae (cf b8 (qv 2) (qv 7)) (ae (qv 8) ah af) aD)) (o4 (qv 2) (qv 7) jh))
   (ao (cE 6 jS.nd (cO (sL T) hr T.m_Q44 T.F_Q44.kp T.b_Q44 (ae (qv 6) (ae (qv 8) ah af) af)))))) bH)))))
   (ao (aI (bK bn (by rfl) T.z_tuple boot_tuple (ae (qv 5) ah af))))))) ?_
 extract_lets +lift
 try dsimp -zeta -zetaDelta only [Cx.nox,Cx.wish,bG]
 refine⟨(by show 0≤sizeLine;exact Nat.zero_le _),fun dl hdl=>?_⟩
 obtain⟨s1,hd1⟩:=pF hdl (.lst [])
 have ndf:dl≠lf:=fun z=>by subst z;rw [hlf] at hdl;cases hdl
 have ndo:dl≠o:=fun z=>by subst z;rw [ho] at hdl;cases hdl
 have hlf1:=s1 _ _ hlf
 have ho1:=s1 _ _ ho
 generalize aG H dl _=H1 at s1 hd1 hlf1 ho1 ⊢
 have l12:∀ r∈[dl,lf],∃ xs,H1 r=some (.lst xs):=fun r m=>by
  rcases List.mem_cons.mp m with z | z
  ·exact⟨_,by rw [z];exact hd1⟩
  ·exact⟨_,by rw [List.mem_singleton.mp z];exact hlf1⟩
 have t1:=aN.same (K:=K) s1
 have onot:o∉[dl,lf]:=fun m=>by
  rcases List.mem_cons.mp m with z | z
  ·exact ndo z.symm
  ·exact nol (List.mem_singleton.mp z)
 have md:dl∈[dl,lf]:=List.mem_cons_self
 have ml:lf∈[dl,lf]:=List.mem_cons_of_mem _ List.mem_cons_self
 let Iv1:Nat->L2.St->Hp->Prop:=fun i σ H'=>∃ (rv:V) (zs ys:List V) (st:tQ) (x8 x9:Option V),σ=[some (.ref p),some (.ref o),some (.ref lf),some (.int (t_:Nat)),some u,some (.ref dl),some rv,x8,x9]/\st=(ord.take i).foldl (bS ws t_) (rs,sp,[])/\Kp [dl,lf] H1 H'/\H' lf=some (.lst zs)/\cn (RV K H') zs st.1/\RV K H' rv st.2.1/\H' dl=some (.lst ys)/\cn (wW K H') ys st.2.2/\wO ws.length st/\st.2.2.length≤i
 refine⟨_,rfl,_,rfl,o,rfl,⟨_,aU.of ho1⟩,js (K:=K) (a:=o) (xs:=ba ord) Iv1 ⟨u,xs,[],(rs,sp,[]),none,none,rfl,rfl,Kp.same (aB.refl _) l12,hlf1,alr.mono fun _ _ z=>z.mono t1,hu.mono t1,hd1,.nil,⟨lr,okr,asp,fun p hp=>by cases hp⟩,Nat.le_refl _⟩ (fun i σ H' _ ⟨_,_,_,_,_,_,_,_,kp,_⟩=>aU.of (kp.keep _ _ onot ho1)) ?_ ?_⟩
 ·rintro i x σ H3 hx ⟨rv,zs,ys,st,x8,x9,rfl,est,kp,hl3,alz,hrv,hd3,aly,dok,few⟩
  obtain⟨n,hn,rfl⟩:=Cv hx
  have nl:=olt n (List.mem_of_getElem? hn)
  have i8:i < ord.length:=(List.getElem?_eq_some_iff.mp hn).1
  have t3:=t1.trans (aN.kp kp)
  have es:(ord.take (i+1)).foldl (bS ws t_) (rs,sp,[])=bS ws t_ st n:=by rw [List.take_add_one,hn,List.foldl_append,est];rfl
  obtain⟨wv,hwv⟩:∃ wv,xw[n]?=some wv:=⟨_,List.getElem?_eq_getElem (by rw [al.len];exact nl)⟩
  obtain⟨w,hw,hwk⟩:=al.at hwv
  have ew:ws.getD n bC=w:=av bC hw
  obtain⟨zv,hzv⟩:∃ zv,zs[n]?=some zv:=⟨_,List.getElem?_eq_getElem (by rw [alz.len,dok.len];exact nl)⟩
  obtain⟨r,hr_,hrz⟩:=alz.at hzv
  have er:st.1.getD n (0,1)=r:=av (0,1) hr_
  have ar:eM r:=dok.lf r (List.mem_of_getElem? hr_)
  refine⟨_,rfl,_,rfl,p,_,_,_,rfl,rfl,t3 _ _ hS,bh hwv,_,rfl,_,w,t_,rfl,hwk.mono t3,_,rfl,?_⟩
  obtain⟨dk1,fw1⟩:=dok.step (ws:=ws) (t:=t_) nl
  cases c:gm w t_ with
  | false=>
   refine nM (b:=!false) rfl ?_
   have e0:bS ws t_ st n=st:=by
    unfold bS
    rw [if_neg]
    rintro⟨z,_⟩
    rw [ew,c] at z
    cases z
   exact⟨rv,zs,ys,st,_,_,rfl,(es.trans e0).symm,kp,hl3,alz,hrv,hd3,aly,dok,by omega⟩
  | true=>
   refine qV (b:=!true) rfl ?_
   refine⟨_,rfl,_,rfl,lf,_,_,_,rfl,rfl,aU.of hl3,bh hzv,_,rfl,_,rv,r,st.2.1,rfl,hrz,hrv,ar,dok.rm,fun a ha=>?_⟩
   have aa:=pH ar dok.rm
   generalize ea:d6 r st.2.1=am at ha aa
   refine⟨_,rfl,dR am,dR (0,1),ha.deep,RV.deep ⟨_,rfl,T.q_NOUGHT _⟩,rfl,rfl,ju _,_,rfl,?_⟩
   rw [pP]
   by_cases cz:am=(0,1)
   ·refine qV (b:=!decide (am=(0,1))) (by rw [decide_eq_true cz];rfl) ?_
    have e0:bS ws t_ st n=st:=by
     unfold bS
     rw [if_neg]
     rintro⟨_,z⟩
     rw [er,ea] at z
     exact z cz
    exact⟨rv,zs,ys,st,_,_,rfl,(es.trans e0).symm,kp,hl3,alz,hrv,hd3,aly,dok,by omega⟩
   ·refine nM (b:=!decide (am=(0,1))) (by rw [decide_eq_false cz];rfl) ?_
    have e1:bS ws t_ st n=(st.1.set n (bu r am),bu st.2.1 am,st.2.2++[(n,am)]):=by
     unfold bS
     rw [if_pos ⟨by rw [ew];exact c,by rw [er,ea];exact cz⟩,er,ea]
    refine⟨_,rfl,.inl ⟨rfl,_,aU.of hd3⟩,_,rfl,_,rfl,oo,fun pn hpn=>?_⟩
    obtain⟨s4,hp4⟩:=pF hpn (.tup [.int (n:Nat),a])
    generalize aG H3 pn _=H4 at s4 hp4 ⊢
    have hd4:=s4 _ _ hd3
    have kp4:=kp.trans (Kp.same s4 kp.ls')
    refine⟨dl,ys,_,rfl,rfl,hd4,aY (by rw [aly.len];omega),?_⟩
    have kp5:=Kp.up md kp4.ls' (ys++[.ref pn])
    have hd5:aG H4 dl (.lst (ys++[.ref pn])) dl=some (.lst (ys++[.ref pn])):=ai
    have hl5:aG H4 dl (.lst (ys++[.ref pn])) lf=some (.lst zs):=by rw [az (Ne.symm ndf)];exact s4 _ _ hl3
    generalize aG H4 dl _=H5 at kp5 hd5 hl5 ⊢
    have t35:=(aN.same (K:=K) s4).trans (aN.kp kp5)
    have kq5:=kp4.trans kp5
    refine⟨_,rfl,_,rfl,lf,_,_,_,rfl,rfl,aU.of hl5,bh hzv,_,rfl,_,a,r,am,800,800,rfl,hrz.mono t35,ha.mono t35,ar.wf,aa.wf,by decide,fun mv H6 s6 hmv=>?_⟩
    have hl6:=s6 _ _ hl5
    have hd6:=s6 _ _ hd5
    have kq6:=kq5.trans (Kp.same s6 kq5.ls')
    have t36:=t35.trans (aN.same s6)
    refine⟨_,rfl,_,rfl,lf,zs,_,n,rfl,rfl,hl6,pM (by rw [alz.len,dok.len];exact nl),?_⟩
    have kp7:=Kp.up ml kq6.ls' (zs.set n mv)
    have hl7:aG H6 lf (.lst (zs.set n mv)) lf=some (.lst (zs.set n mv)):=ai
    have hd7:aG H6 lf (.lst (zs.set n mv)) dl=some (.lst (ys++[.ref pn])):=by rw [az ndf];exact hd6
    generalize aG H6 lf _=H7 at kp7 hl7 hd7 ⊢
    have t67:=aN.kp (K:=K) kp7
    have t37:=t36.trans t67
    have kq7:=kq6.trans kp7
    refine⟨_,rfl,_,rfl,rv,a,st.2.1,am,800,800,rfl,hrv.mono t37,ha.mono t37,dok.rm.wf,aa.wf,by decide,fun rv2 H8 s8 hrv2=>?_⟩
    have t78:=aN.same (K:=K) s8
    have t38:=t37.trans t78
    have est':bS ws t_ st n=(ord.take (i+1)).foldl (bS ws t_) (rs,sp,[]):=es.symm
    rw [e1] at est' dk1 fw1
    exact⟨rv2,_,_,_,_,_,rfl,est',kq7.trans (Kp.same s8 kq7.ls'),s8 _ _ hl7,cn.setI (hmv.mono (t67.trans t78)) n (alz.mono fun _ _ z=>z.mono t38),hrv2,s8 _ _ hd7,cn.snoc ⟨pn,a,rfl,(((aN.kp kp5).trans (aN.same s6)).trans (t67.trans t78)) _ _ (bt.of hp4),ha.mono t38⟩ (aly.mono fun _ _ z=>z.mono t38),dk1,by omega⟩
 ·rintro σ H3 ⟨rv,zs,ys,st,x8,x9,rfl,est,kp,hl3,alz,hrv,hd3,aly,dok,few⟩
  rw [show (ba ord).length=ord.length from List.length_map _,List.take_length] at est
  refine⟨_,rfl,dl,_,rfl,.inl ⟨aU.of hd3,fun pt hpt=>?_⟩⟩
  have s4:=ap hpt (.tup ys)
  have t34:=aN.same (K:=K) s4
  have e:eU ws ord t_ rs sp=st:=est.symm
  refine k (.ref pt) zs _ ⟨fun b o' nb e=>s4 _ _ (kp.keep b o' (fun m=>?_) (s1 _ _ e)),⟨_,hlf⟩,⟨_,s4 _ _ hl3⟩⟩ (s4 _ _ hl3) (by rw [e];exact alz.mono fun _ _ z=>z.mono t34) (by rw [e];exact⟨pt,ys,rfl,bt.of ai,aly.mono fun _ _ z=>z.mono t34⟩)
  rcases List.mem_cons.mp m with z | z
  ·rw [z,hdl] at e;cases e
  ·exact nb (List.mem_singleton.mp z)
theorem Fw (T:d8 K mg t):bo P w K mg base dE 5 t.a_Q47 t.d_Q47 ["works", "leans", "speeds"] (xO K):=by
 refine T.F_Q47.ok iZ (fun vs H Q E h=>?_) (fun cdv A outer s H vs Q E hr h=>?_)
 ·obtain⟨_,_,_,_,_,rfl,_⟩:=h;rfl
 obtain⟨v,s_,b,ws,ss,rfl,ak,⟨q,qs,rfl,hq,alq⟩,l24,oks,nl_,k⟩:=h
 refine db.ok (ag (cE 3 iZ.nd (cO (FG T) hr T.m_Q34 T.F_Q34.kp T.b_Q34 (ae (qv 0) (ae (qv 1) ah af) af)))
   (ag (ig (i:=4) (N':=["work"]) (src:=[none]) iZ.nd rfl (by first | exact Or.inl rfl | exact Or.inr rfl) rfl (by exact (eZ (qv 0))) (fun _ _ _ _ _=>(by exact (by exact aH (i:=0) (by show List.Nodup (["work"]:List Str);decide +kernel) (by exact rfl) (by first | exact Or.inl rfl | exact Or.inr rfl)))) (fun _ _ _ _ _=>dk) (fun _ _ _ _ _=>(by exact (by exact (bL (bW (K:=K) (by exact rfl)) (by exact (qv 0)) aj (by exact fun _ _=>rfl))))) (by exact trivial) rfl (by decide +kernel) rfl (by decide +kernel) (by exact bB rfl trivial))
   (ag (cE 5 iZ.nd (ck ah))
   (ag (cG PassesOwn.never rfl (dg rfl T.z_range (ae (c6 (v:=.int (24)) rfl T.m_TURNS ⟨_,rfl⟩) ah af)) (aH (i:=6) iZ.nd rfl (by first | exact Or.inl rfl | exact Or.inr rfl))
   (ao (cD (fO PySem.F.plainAttrs_list PySem.F.slot_list_append PySem.F.type_list_append bU (qv 5) (ae (cO (FP T) hr T.m_Q24 T.F_Q24.kp T.b_Q24 (ae (qv 0) (ae (qv 3) (ae (qv 4) (ae (qv 6) (ae (cf aA (qv 2) (qv 6)) ah aD) af) af) af) af)) ah aR)))))
   (ag (cG PassesOwn.never rfl (lR rfl T.z_enumerate (ae (qv 4) ah af)) (sj rfl (bI (aH (i:=7) iZ.nd rfl (by first | exact Or.inl rfl | exact Or.inr rfl)) (bI (aH (i:=8) iZ.nd rfl (by first | exact Or.inl rfl | exact Or.inr rfl)) eP)))
   (ao (cM (bj (pA hr) (qv 8) (c6 (v:=.ref t.c_NOUGHT) rfl T.m_NOUGHT rfl) (bi _)) (ao eY) bH)))
   (ao (aI (bK bn (by rfl) T.z_tuple boot_tuple (ae (qv 5) ah af))))))))) ?_
 extract_lets +lift
 try dsimp -zeta -zetaDelta only [Cx.nox,Cx.wish,bG]
 obtain⟨p,xs,rfl,hS,al⟩:=id ak.wv
 have w8:=ak.w8
 have lx:xs.length=ws.length:=al.len
 refine⟨_,rfl,_,rfl,_,b,ws,rfl,ak,fun o H1 s1 _ ho=>?_⟩
 have hS1:=aN.same (K:=K) s1 _ _ hS
 refine⟨_,rfl,p,rfl,⟨_,hS1⟩,fun lf hlf0=>fP (K:=K) (P:=RV K) (ds:=ws) (f:=fun w=>w.2.2) (fun _ _ _ _ t z=>z.mono t) hlf0 (ja hS1) lx (by omega) (fun i x d H' hx hd sm Rk E kR=>?_) fun H2 ys s2 hlf al2=>?_⟩
 ·obtain⟨d',hd',pw,xa,rfl,hSw,rx⟩:=al.at hx
  rw [hd] at hd'
  cases hd'
  have t':=aN.same (K:=K) (s1.trans sm)
  exact⟨iz.set rfl,_,rfl,pw,_,_,_,rfl,rfl,t' _ _ hSw,rfl,kR _ _ (aB.refl _) (rx.mono t')⟩
 have ho2:=s2 _ _ ho
 have nol:o≠lf:=fun z=>by subst z;rw [ho] at hlf0;cases hlf0
 have lfN:H lf=none:=by
  cases e:H lf with
  | none=>rfl
  | some o'=>rw [s1 _ _ e] at hlf0;cases hlf0
 refine⟨(by show 0≤sizeLine;exact Nat.zero_le _),fun pl hpl=>?_⟩
 obtain⟨s3,hp3⟩:=pF hpl (.lst [])
 have npf:pl≠lf:=fun z=>by subst z;rw [hlf] at hpl;cases hpl
 have npo:pl≠o:=fun z=>by subst z;rw [ho2] at hpl;cases hpl
 have hl3:=s3 _ _ hlf
 have ho3:=s3 _ _ ho2
 have al3:=al2.mono fun _ _ z=>z.mono (aN.same s3)
 have s03:=(s1.trans s2).trans s3
 have plN:H pl=none:=by
  cases e:H pl with
  | none=>rfl
  | some o'=>rw [s2 _ _ (s1 _ _ e)] at hpl;cases hpl
 generalize aG H2 pl _=H3 at s03 hp3 hl3 ho3 al3 ⊢
 have t03:=aN.same (K:=K) s03
 have oi:=dU (ws:=ws) ws.length (Nat.le_refl _)
 have pk:=fk (ord:=aS ws ws.length) ak.ok oi.lt oks
 have md:pl∈[pl,lf]:=List.mem_cons_self
 have l12:∀ r∈[pl,lf],∃ xs,H3 r=some (.lst xs):=fun r m=>by
  rcases List.mem_cons.mp m with z | z
  ·exact⟨_,by rw [z];exact hp3⟩
  ·exact⟨_,by rw [List.mem_singleton.mp z];exact hl3⟩
 have onot:o∉[pl,lf]:=fun m=>by
  rcases List.mem_cons.mp m with z | z
  ·exact npo z.symm
  ·exact nol (List.mem_singleton.mp z)
 have sk:∀ H',Kp [pl,lf] H3 H'->aB H H':=fun H' kp b o' e=>kp.keep b o' (fun m=>by
  rcases List.mem_cons.mp m with z | z
  ·rw [z,plN] at e;cases e
  ·rw [List.mem_singleton.mp z,lfN] at e;cases e) (s03 _ _ e)
 have olt:=oi.lt
 have olen:=oi.len
 generalize hod:aS ws ws.length=od at ho3 pk olt olen
 let Iv1:Nat->L2.St->Hp->Prop:=fun i σ H'=>∃ (zs ys:List V) (x7 x8 x9:Option V),σ=[some (.ref p),some (.ref b),some (.ref q),some (.ref o),some (.ref lf),some (.ref pl),x7,x8,x9]/\Kp [pl,lf] H3 H'/\H' lf=some (.lst zs)/\cn (RV K H') zs (bb ws od ss i).1/\H' pl=some (.lst ys)/\cn (rp K H') ys (bb ws od ss i).2
 refine⟨24,rfl,by decide,by decide,eT (lo:=0) (n:=24) Iv1 ⟨_,[],none,none,none,rfl,Kp.same (aB.refl _) l12,hl3,al3,hp3,.nil⟩ ?_ ?_⟩
 ·rintro i σ H4 hi ⟨zs,ys,x7,x8,x9,rfl,kp,hl4,alz,hp4,aly⟩
  obtain⟨po,pl_⟩:=pk i
  have t4:=t03.trans (aN.kp kp)
  obtain⟨sv,hsv⟩:∃ sv,qs[i]?=some sv:=⟨_,List.getElem?_eq_getElem (by rw [alq.len,l24];exact hi)⟩
  obtain⟨sp,hsp,rsp⟩:=alq.at hsv
  have esp:ss.getD i (0,1)=sp:=av (0,1) hsp
  have z0:(0:Int)+(i:Int)=(i:Int):=Int.zero_add _
  refine⟨_,rfl,.inl ⟨rfl,_,aU.of hp4⟩,_,rfl,_,rfl,_,rfl,_,rfl,_,rfl,_,rfl,q,_,_,_,rfl,rfl,t4 _ _ hq,(by rw [z0];exact bh hsv),.ref p,sv,o,lf,ws,od,zs,(bb ws od ss i).1,i,sp,(by rw [z0];rfl),⟨p,xs,rfl,t4 _ _ hS,al.mono fun _ _ z=>z.mono t4⟩,kp.keep _ _ onot ho3,hl4,nol,alz,po.len,po.lf,rsp.mono t4,oks _ (List.mem_of_getElem? hsp),olt,by rw [olen];omega,fun w ys' H5 S5 hl5 al5 tn5=>?_⟩
  have hp5:=S5.keep _ _ npf hp4
  have t45:=aN.step (K:=K) S5
  have kp5:Kp [pl,lf] H4 H5:=⟨fun b o' nb e=>S5.keep b o' (fun z=>nb (by rw [z];exact List.mem_cons_of_mem _ List.mem_cons_self)) e,kp.ls',fun r m=>by
   rcases List.mem_cons.mp m with z | z
   ·exact⟨_,by rw [z];exact hp5⟩
   ·exact⟨_,by rw [List.mem_singleton.mp z];exact hl5⟩⟩
  have kq5:=kp.trans kp5
  refine⟨pl,ys,_,rfl,rfl,hp5,aY (by rw [aly.len,pl_];omega),?_⟩
  have kp6:=Kp.up md kq5.ls' (ys++[w])
  have t56:=aN.kp (K:=K) kp6
  rw [← esp] at al5 tn5
  exact⟨ys',_,_,_,_,rfl,kq5.trans kp6,by rw [az (Ne.symm npf)];exact hl5,al5.mono fun _ _ z=>z.mono t56,ai,cn.snoc (tn5.mono t56) (aly.mono fun _ _ z=>(z.mono t45).mono t56)⟩
 rintro σ H4 ⟨zs,ys,x7,x8,x9,rfl,kp,hl4,alz,hp4,aly⟩
 obtain⟨po,pl_⟩:=pk 24
 have ed:c5 ws ss=bb ws od ss 24:=by unfold c5;rw [hod]
 rw [ed] at k nl_
 have s04:=sk H4 kp
 generalize bb ws od ss 24=pm at k nl_ alz aly po pl_
 have lz:zs.length=ws.length:=by rw [alz.len,po.len]
 let Iv2:Nat->L2.St->Hp->Prop:=fun i σ H'=>∃ (x8 x9:Option V),σ=[some (.ref p),some (.ref b),some (.ref q),some (.ref o),some (.ref lf),some (.ref pl),x7,x8,x9]/\aB H4 H'/\∀ j,j < i->pm.1.getD j (0,1)=(0,1)
 refine⟨_,rfl,lf,rfl,⟨_,aU.of hl4⟩,nO (sq:=aU K) (a:=lf) (xs:=zs) Iv2 ⟨_,_,rfl,aB.refl _,fun j hj=>absurd hj (Nat.not_lt_zero _)⟩ (fun i σ H' _ ⟨_,_,_,sm,_⟩=>aU.of (sm _ _ hl4)) ?_ ?_⟩
 ·rintro i x pe σ H5 hx ⟨x8,x9,rfl,s5,le⟩ hpe
  obtain⟨r,hr_,hrz⟩:=alz.at hx
  have er:pm.1.getD i (0,1)=r:=av (0,1) hr_
  have il:i < pm.1.length:=(List.getElem?_eq_some_iff.mp hr_).1
  obtain⟨s6,hpe6⟩:=pF hpe (.tup [.int i,x])
  generalize aG H5 pe _=H6 at s6 hpe6 ⊢
  have s46:=s5.trans s6
  have t46:=aN.same (K:=K) s46
  refine⟨pe,_,rfl,bt.of hpe6,rfl,_,_,rfl,_,_,rfl,rfl,?_⟩
  refine⟨_,rfl,dR r,dR (0,1),(hrz.mono t46).deep,RV.deep ⟨_,rfl,T.q_NOUGHT _⟩,rfl,rfl,ju _,_,rfl,?_⟩
  rw [pP]
  by_cases cz:r=(0,1)
  ·refine qV (b:=!decide (r=(0,1))) (by rw [decide_eq_true cz];rfl) ?_
   refine⟨_,_,rfl,s46,fun j hj=>?_⟩
   by_cases z:j < i
   ·exact le j z
   ·rw [show j=i by omega,er];exact cz
  ·refine nM (b:=!decide (r=(0,1))) (by rw [decide_eq_false cz];rfl) ?_
   exact absurd nl_ (by rw [vY il (by rw [er];exact cz) le];exact fun z=>nomatch z)
 ·rintro σ H5 ⟨x8,x9,rfl,s5,le⟩
  refine⟨_,rfl,pl,_,rfl,.inl ⟨aU.of (s5 _ _ hp4),fun pt hpt=>?_⟩⟩
  have s6:=ap hpt (.tup ys)
  have t46:=(aN.same (K:=K) s5).trans (aN.same s6)
  refine k (.ref pt) _ ((s04.trans s5).trans s6) ?_
  exact .tup (bt.of ai) ((aly.mono fun _ _ z=>z.mono t46).deep fun _ _ z=>z.deep)
theorem FR (T:d8 K mg t):bo P w K mg base dE 6 t.a_Q20 t.d_Q20 ["sheet"] (mU K):=by
 refine T.F_Q20.ok xU (fun vs H Q E h=>?_) (fun cdv A outer s H vs Q E hr h=>?_)
 ·obtain⟨_,_,rfl,_⟩:=h;rfl
 obtain⟨v,ws,rfl,sa,k⟩:=h
 refine db.ok (ag (cE 1 xU.nd (cO (FI T) hr T.m_Q32 T.F_Q32.kp T.b_Q32 (ae (qv 0) ah af)))
   (ao (aI (cO (Fw T) hr T.m_Q47 T.F_Q47.kp T.b_Q47 (ae (qv 1) (ae (cf aA (qv 0) aj) (ae (cO (DD T) hr T.m_Q9 T.F_Q9.kp T.b_Q9 (ae (qv 1) ah af)) ah aR) aD) af))))) ?_
 extract_lets +lift
 try dsimp -zeta -zetaDelta only [Cx.nox,Cx.wish,bG]
 obtain⟨p,a,b,rfl,hS,wv,hb⟩:=id sa.sv
 have w8:=sa.w8
 refine⟨_,rfl,.ref p,ws,rfl,sa.sv,w8,sa.ok,fun u H1 s1 wv'=>?_⟩
 have t1:=aN.same (K:=K) s1
 refine⟨_,rfl,_,rfl,p,_,_,_,rfl,rfl,t1 _ _ hS,rfl,_,rfl,u,ws,rfl,wv',by omega,sa.ok,fun q xs lys H2 s2 hq al ly=>?_⟩
 have ams:=lj sa.ok w8 (l9 ly (by decide) (fun t ht=>List.mem_range.mp ht))
 refine⟨u,.ref q,b,ws,aP ws lys,rfl,⟨wv'.mono (aN.same s2),w8,sa.ok,aN.same (K:=K) s2 _ _ (t1 _ _ hb)⟩,⟨q,xs,rfl,hq,al⟩,(by unfold aP;rw [ib];rfl),ams,vV sa.ok ly ams,fun w H3 s3 dw=>?_⟩
 exact k lys w H3 ((s1.trans s2).trans s3) ly dw
theorem ID (T:d8 K mg t):bo P w K mg base dE 1 t.a_Q5 t.d_Q5 ["works", "amounts", "turn"] (jO K):=by
 refine T.F_Q5.ok Dx (fun vs H Q E h=>?_) (fun cdv A outer s H vs Q E hr h=>?_)
 ·obtain⟨_,_,_,_,_,_,_,rfl,_⟩:=h;rfl
 obtain⟨a,b,xs,ys,kn,rs,t₀,rfl,hA,ak,hB,ar,len,l20,k⟩:=h
 refine db.ok (ag (ig (i:=3) (N':=["number", "amount"]) (src:=[none,none]) Dx.nd rfl (by first | exact Or.inl rfl | exact Or.inr rfl) rfl (by exact (lR rfl T.z_enumerate (ae (qv 1) ah af))) (fun _ _ _ _ _=>(by exact (by exact ii (K:=K) (n:=2) (by exact rfl) (by exact rfl) (by exact bI (by exact aH (i:=0) (by show List.Nodup (["number", "amount"]:List Str);decide +kernel) (by exact rfl) (by first | exact Or.inl rfl | exact Or.inr rfl)) (by exact bI (by exact aH (i:=1) (by show List.Nodup (["number", "amount"]:List Str);decide +kernel) (by exact rfl) (by first | exact Or.inl rfl | exact Or.inr rfl)) eP))))) (fun _ _ _ _ _=>(dQ (bj (Cm (K:=K) (by exact rfl) hr) (by exact (qv 1)) (by exact (c6 (v:=.ref t.c_NOUGHT) (by exact rfl) T.m_NOUGHT rfl)) (bi _)))) (fun _ _ _ _ _=>(by exact (by exact (qv 0)))) (by exact trivial) rfl (by decide +kernel) rfl (by decide +kernel) (by exact bB rfl trivial))
   (ao (aI (cj (ae (bK bn (by rfl) T.z_tuple boot_tuple (ae (bZ (N':=["number", "turn", "amounts", "works"]) (src:=[none,some 2,some 1,some 0]) rfl (by exact (dS (qv 3))) (fun _ _ _ _ _=>(by exact (by exact aH (i:=0) (by show List.Nodup (["number", "turn", "amounts", "works"]:List Str);decide +kernel) (by exact rfl) (by first | exact Or.inl rfl | exact Or.inr rfl)))) (fun _ _ _ _ _=>dk) (fun _ _ _ _ _=>(by exact (by exact (cj (ae (by exact (qv 1)) (ae (by exact (bL (bW (K:=K) (by exact rfl)) (by exact (bL (CF (K:=K) (by exact rfl)) (by exact (qv 3)) (by exact (qv 0)) (by exact fun _ _=>rfl))) aj (by exact fun _ _=>rfl))) (ae (by exact (bL (cB (K:=K) (by exact rfl)) (by exact (qv 2)) (by exact (qv 0)) (by exact fun _ _=>rfl))) ah aD) aD) af))))) (by exact⟨rfl,rfl,rfl,rfl,⟨rfl,rfl,rfl,rfl,⟨rfl,rfl,rfl,rfl,trivial⟩⟩⟩) rfl (by decide +kernel) rfl (by decide +kernel) (by exact bB rfl ⟨rfl,⟨rfl,⟨rfl,trivial⟩⟩⟩)) ah eO)) (ae (qv 3) ah af) aR))))) ?_
 extract_lets +lift
 try dsimp -zeta -zetaDelta only [Cx.nox,Cx.wish,bG]
 have lx:=ak.len
 have ly:=ar.len
 refine⟨_,rfl,b,rfl,⟨_,hB⟩,fun D hD=>cL (tY hB) (fun i=>decide (rs.getD i (0,1)≠(0,1))) (fun i=>V.int (i:Nat)) hD (by omega) (fun i x H' hi s' hx R E kR kE=>?_) fun H4 s4 h4=>?_⟩
 ·obtain⟨pe,y,rfl,hy,hpe⟩:=hx
  obtain⟨r,hr_,hrz⟩:=ar.at hy
  have er:rs.getD i (0,1)=r:=av (0,1) hr_
  have t':=aN.same (K:=K) s'
  rw [er] at kR kE
  refine⟨pe,_,rfl,bt.of hpe,rfl,_,_,rfl,_,_,rfl,rfl,(iz.set rfl).set' rfl,?_⟩
  refine⟨_,rfl,dR r,dR (0,1),(hrz.mono t').deep,RV.deep ⟨_,rfl,T.q_NOUGHT _⟩,rfl,rfl,ju _,_,rfl,?_⟩
  rw [pP]
  by_cases cz:r=(0,1)
  ·refine qV (b:=!decide (r=(0,1))) (by rw [decide_eq_true cz];rfl) ?_
   exact kE (decide_eq_false fun z=>z cz) _ (aB.refl _)
  ·refine nM (b:=!decide (r=(0,1))) (by rw [decide_eq_false cz];rfl) ?_
   exact⟨_,rfl,kR (decide_eq_true cz) _ (aB.refl _)⟩
 have e4:H4 D=some (.lst (ba (aF rs))):=by rw [h4,ly];rfl
 have nl:(ba (aF rs)).length=(aF rs).length:=List.length_map _
 have nm:(aF rs).length≤rs.length:=by
  unfold aF
  exact Nat.le_trans (List.length_filter_le _ _) (by rw [List.length_range];exact Nat.le_refl _)
 refine⟨_,rfl,D,rfl,⟨_,aU.of e4⟩,fun D2 hD2=>fP (K:=K) (P:=AS K) (ds:=aF rs) (f:=fun i=>((t₀,(kn.getD i bC).2.1,rs.getD i (0,1)):Wk)) (fun _ _ _ _ t p=>p.mono t) hD2 (f7 (aU.of e4)) nl (by omega) (fun i x d H' hx hd s' R E kR=>?_) fun H5 ys5 s5 hD5 al5=>?_⟩
 ·have hx':(ba (aF rs))[i]?=some (V.int (d:Nat)):=by unfold ba;rw [List.getElem?_map,hd];rfl
  rw [hx] at hx'
  cases hx'
  have hdl:d < rs.length:=by
   have m:=List.mem_of_getElem? hd
   unfold aF at m
   exact List.mem_range.mp (List.mem_filter.mp m).1
  obtain⟨xw,hxw⟩:∃ xw,xs[d]?=some xw:=⟨_,List.getElem?_eq_getElem (by omega)⟩
  obtain⟨yw,hyw⟩:∃ yw,ys[d]?=some yw:=⟨_,List.getElem?_eq_getElem (by omega)⟩
  obtain⟨w,hwd,pw,xa,rfl,hSw,rx⟩:=ak.at hxw
  obtain⟨r,hrd,ry⟩:=ar.at hyw
  rw [av bC hwd,av (0,1) hrd] at kR
  have s0':=s4.trans s'
  have t':=aN.same (K:=K) s0'
  refine⟨iz.set rfl,_,rfl,_,rfl,_,rfl,BI (GF.tst s0' hA) (bh hxw) ⟨pw,_,_,_,rfl,rfl,t' _ _ hSw,rfl,_,rfl,_,rfl,b,_,_,_,rfl,rfl,s0'.seq hB,bh hyw,JF,fun pn hpn=>?_⟩⟩
  exact kR _ _ (ap hpn _) ⟨pn,yw,rfl,bt.of ai,(ry.mono t').mono (aN.new hpn _)⟩
 ·refine⟨D2,ys5,rfl,.inl ⟨aU.of hD5,fun pt hpt=>?_⟩⟩
  have z:=ap hpt (.tup ys5)
  have wz:eD K (aG H5 pt (.tup ys5)) (.ref pt) (bc kn rs t₀):=⟨pt,ys5,rfl,bt.of ai,al5.mono fun _ _ q=>q.mono (aN.same z)⟩
  refine⟨_,rfl,oo,fun pp hpp=>?_⟩
  have z2:=ap hpp (.tup [.ref pt,.ref D])
  exact k pp D (.ref pt) _ (((s4.trans s5).trans z).trans z2) (bt.of ai) (wz.mono (aN.same z2)) (z2 _ _ (z _ _ (s5 _ _ e4)))
theorem FQ (T:d8 K mg t):bo P w K mg base dE 1 t.a_Q21 t.d_Q21 ["pieces", "numbers"] (mT K):=by
 refine T.F_Q21.ok Et (fun vs H Q E h=>?_) (fun cdv A outer s H vs Q E hr h=>?_)
 ·obtain⟨_,_,_,_,rfl,_⟩:=h;rfl
 obtain⟨u,l,q,ns,rfl,⟨p,xs,rfl,hS,al⟩,hL,lt,l64,k⟩:=h
 refine db.ok (ao (aI (bK bn (by rfl) T.z_tuple boot_tuple (ae (bZ (N':=["piece", "numbers"]) (src:=[none,some 1]) rfl (by exact (eZ (qv 0))) (fun _ _ _ _ _=>(by exact (by exact aH (i:=0) (by show List.Nodup (["piece", "numbers"]:List Str);decide +kernel) (by exact rfl) (by first | exact Or.inl rfl | exact Or.inr rfl)))) (fun _ _ _ _ _=>dk) (fun _ _ _ _ _=>(by exact (by exact (cj (ae (by exact (bL (cB (K:=K) (by exact rfl)) (by exact (qv 1)) (by exact (bL (bW (K:=K) (by exact rfl)) (by exact (qv 0)) aj (by exact fun _ _=>rfl))) (by exact fun _ _=>rfl))) (ae (by exact (bL (bW (K:=K) (by exact rfl)) (by exact (qv 0)) aj (by exact fun _ _=>rfl))) ah aD) aD))))) (by exact⟨rfl,rfl,rfl,rfl,trivial⟩) rfl (by decide +kernel) rfl (by decide +kernel) (by exact bB rfl ⟨rfl,trivial⟩)) ah eO)))) ?_
 extract_lets +lift
 try dsimp -zeta -zetaDelta only [Cx.nox,Cx.wish,bG]
 have lx:=al.len
 refine⟨_,rfl,p,rfl,⟨_,hS⟩,fun D hD=>fP (K:=K) (P:=wW K) (ds:=q) (f:=fun c:Pc=>((ns.getD c.1 0,c.2):Pc)) (fun _ _ _ _ t p=>p.mono t) hD (ja hS) lx (by omega) (fun i x c H' hx hc s' R E kR=>?_) fun H2 ys2 s2 hD2 al2=>?_⟩
 ·obtain⟨c',hc',pc,xa,rfl,hSc,rx⟩:=al.at hx
  rw [hc] at hc'
  cases hc'
  have hl:=lt c (List.mem_of_getElem? hc)
  have t':=aN.same (K:=K) s'
  refine⟨iz.set rfl,_,rfl,_,rfl,pc,_,_,_,rfl,rfl,t' _ _ hSc,rfl,l,_,_,_,rfl,rfl,s'.seq hL,bh (v:=V.int ((ns.getD c.1 0:Nat):Int)) (by unfold ba;rw [List.getElem?_map,List.getElem?_eq_getElem hl,av 0 (List.getElem?_eq_getElem hl)];rfl),_,rfl,pc,_,_,_,rfl,rfl,t' _ _ hSc,rfl,oo,fun pn hpn=>?_⟩
  exact kR _ _ (ap hpn _) ⟨pn,xa,rfl,bt.of ai,(rx.mono t').mono (aN.new hpn _)⟩
 ·refine⟨D,ys2,rfl,.inl ⟨aU.of hD2,fun pt hpt=>?_⟩⟩
  have z:=ap hpt (.tup ys2)
  exact k _ _ (s2.trans z) ⟨pt,ys2,rfl,bt.of ai,al2.mono fun _ _ q=>q.mono (aN.same z)⟩
theorem FW (T:d8 K mg t):bo P w K mg base dE 1 t.a_Q14 t.d_Q14 ["_law_script", "_law_k"] (lD K):=by
 refine T.F_Q14.ok Ex (fun vs H Q E h=>?_) (fun cdv A outer s H vs Q E hr h=>?_)
 ·obtain⟨_,_,_,rfl,_⟩:=h;rfl
 obtain⟨a,ns,k₀,rfl,hS,k⟩:=h
 refine db.ok (ag (cM (bj j7 (qv 1) (aQ aO (by rfl) T.z_len boot_len (ae (qv 0) ah af)) (bi _)) (ao (aI (cf b8 (qv 0) (qv 1)))) bH)
   (ao (aI aj))) ?_
 extract_lets +lift
 try dsimp -zeta -zetaDelta only [Cx.nox,Cx.wish,bG]
 have hlm:((ns.map V.int).length:Int)=(ns.length:Int):=by rw [List.length_map]
 refine⟨_,rfl,_,rfl,a,_,rfl,.inl hS,_,_,rfl,rfl,_,rfl,?_⟩
 by_cases c:(k₀:Int) < ((ns.map V.int).length:Int)
 ·refine d7 c ?_
  obtain⟨z,hz⟩:=DC (ns:=ns) (r:=(k₀:Int)) (by omega) (by omega)
  exact⟨_,rfl,_,rfl,a,_,_,_,rfl,rfl,hS,hz,k z⟩
 ·exact cT c (k 0)
theorem FO (T:d8 K mg t):bo P w K mg base dE 1 t.a_Q25 t.d_Q25 ["_law_cell", "_law_many"] (oF K):=by
 refine T.F_Q25.ok gK (fun vs H Q E h=>?_) (fun cdv A outer s H vs Q E hr h=>?_)
 ·obtain⟨_,_,rfl,_⟩:=h;rfl
 obtain⟨c,m,rfl,m0,m1,k⟩:=h
 refine db.ok (ag (cE 2 gK.nd (ck ah))
   (ag (cE 3 gK.nd aj)
   (ag (cM (bj zM (qv 0) (aJ Fs aj aj) (bi _)) (ao (cE 3 gK.nd (qv 0))) bH)
   (ag (cE 4 gK.nd (aJ dm (aJ gO (qv 0) aj) aj))
   (ag (cG PassesOwn.never rfl (dg rfl T.z_range (ae (qv 1) ah af)) (aH (i:=5) gK.nd rfl (by first | exact Or.inl rfl | exact Or.inr rfl))
   (ag (cE 4 gK.nd (aJ gO (aJ dm (aJ dm (aJ gN (qv 4) (qv 4)) (aJ gN aj (qv 4))) (aJ gN aj (qv 5))) aj))
   (ao (cM (bj jm (qv 3) aj (bi _)) (ag (cD (fO PySem.F.plainAttrs_list PySem.F.slot_list_append PySem.F.type_list_append bU (qv 2) (ae (aJ gO (qv 3) aj) ah bv)))
   (ao (cE 3 gK.nd (aJ uA (qv 3) aj)))) (ao (cD (fO PySem.F.plainAttrs_list PySem.F.slot_list_append PySem.F.type_list_append bU (qv 2) (ae (aJ uA (aJ gO (aJ dm (aJ gN (qv 4) aj) (aJ gN aj (qv 5))) aj) aj) ah bv))))))))
   (ao (aI (qv 2)))))))) ?_
 extract_lets +lift
 try dsimp -zeta -zetaDelta only [Cx.nox,Cx.wish,bG]
 refine⟨(by show 0≤sizeLine;exact Nat.zero_le _),fun l h0=>?_⟩
 have s0:=ap h0 (.lst [])
 have q0:=Int.emod_nonneg c (show (2147483629:Int)≠0 by decide)
 have q1:=Int.emod_lt_of_pos c (show (0:Int) < 2147483629 by decide)
 refine⟨_,rfl,_,_,rfl,rfl,⟨by decide,by decide,by decide⟩,_,_,rfl,rfl,_,rfl,Gh (fun _=>?_) (fun _=>?_)⟩
 ·refine⟨_,rfl,?_⟩
  refine⟨_,rfl,_,_,rfl,rfl,(by show (0:Int) < _;decide),_,_,rfl,rfl,?_⟩
  refine⟨_,rfl,m,rfl,by omega,by omega,eT (lo:=0) (n:=(m:Int).toNat) (fun i σ H'=>∃ (ns:List Int) (num mx:Int) (x6:Option V),σ=[some (.int c),some (.int m),some (.ref l),some (.int num),some (.int mx),x6]/\aB H H'/\H' l=some (.lst (ns.map V.int))/\ns.length=i/\0≤mx/\mx < 2147540000) ⟨[],c,_,none,rfl,s0,ai,rfl,by omega,by omega⟩ ?_ ?_⟩
  ·rintro i σ H1 hi ⟨ns,num,mx,x6,rfl,s1,hl1,hn,x0,x1⟩
   refine⟨_,rfl,_,rfl,_,_,rfl,rfl,.inl ⟨by omega,by omega⟩,_,rfl,_,_,rfl,rfl,.inl ⟨by decide,by decide⟩,_,_,rfl,rfl,_,rfl,_,_,rfl,rfl,.inl ⟨by decide,by decide⟩,_,_,rfl,rfl,_,_,rfl,rfl,(by show (0:Int) < _;decide),?_⟩
   have y0:=Int.emod_nonneg (mx * mx+48271 * mx+7 * (0+(i:Int))) (show (2147483647:Int)≠0 by decide)
   have y1:=Int.emod_lt_of_pos (mx * mx+48271 * mx+7 * (0+(i:Int))) (show (0:Int) < 2147483647 by decide)
   have fin:∀ (z:Int),∃ ns':List Int,aG H1 l (.lst (ns.map V.int++[.int z])) l=some (.lst (ns'.map V.int))/\ns'.length=i+1:=fun z=>⟨ns++[z],by rw [ai,List.map_append];rfl,by rw [List.length_append,hn];rfl⟩
   have sm:∀ o,aB H (aG H1 l o):=fun o b u e=>by rw [az (aK e h0)];exact s1 _ _ e
   refine⟨_,rfl,_,_,rfl,rfl,_,rfl,Gh (fun _=>?_) (fun _=>?_)⟩
   ·refine⟨_,rfl,.inl ⟨rfl,_,aU.of hl1⟩,_,rfl,_,_,rfl,rfl,(by show (0:Int) < _;decide),l,_,_,rfl,rfl,hl1,aY (by rw [List.length_map];omega),?_⟩
    refine⟨_,rfl,_,_,rfl,rfl,⟨by decide,by decide⟩,?_⟩
    obtain⟨ns',e,el⟩:=fin (num % 720720)
    exact⟨ns',_,_,_,rfl,sm _,e,el,y0,by omega⟩
   ·refine⟨_,rfl,.inl ⟨rfl,_,aU.of hl1⟩,_,rfl,_,_,rfl,rfl,.inr ⟨by decide,by decide⟩,_,rfl,_,_,rfl,rfl,.inl ⟨by decide,by decide⟩,_,_,rfl,rfl,_,_,rfl,rfl,(by show (0:Int) < _;decide),_,_,rfl,rfl,⟨by decide,by decide⟩,l,_,_,rfl,rfl,hl1,aY (by rw [List.length_map];omega),?_⟩
    obtain⟨ns',e,el⟩:=fin (((mx * mx+48271 * mx+7 * (0+(i:Int))) % 2147483647 * 69621+13 * (0+(i:Int))) % 2147483629 / 3)
    exact⟨ns',_,_,_,rfl,sm _,e,el,y0,by omega⟩
  ·rintro σ H1 ⟨ns,num,mx,x6,rfl,s1,hl1,hn,x0,x1⟩
   exact⟨_,rfl,k l ns H1 s1 h0 hl1 (by rw [hn];omega)⟩
 ·refine⟨_,rfl,_,_,rfl,rfl,(by show (0:Int) < _;decide),_,_,rfl,rfl,?_⟩
  refine⟨_,rfl,m,rfl,by omega,by omega,eT (lo:=0) (n:=(m:Int).toNat) (fun i σ H'=>∃ (ns:List Int) (num mx:Int) (x6:Option V),σ=[some (.int c),some (.int m),some (.ref l),some (.int num),some (.int mx),x6]/\aB H H'/\H' l=some (.lst (ns.map V.int))/\ns.length=i/\0≤mx/\mx < 2147540000) ⟨[],0,_,none,rfl,s0,ai,rfl,by omega,by omega⟩ ?_ ?_⟩
  ·rintro i σ H1 hi ⟨ns,num,mx,x6,rfl,s1,hl1,hn,x0,x1⟩
   refine⟨_,rfl,_,rfl,_,_,rfl,rfl,.inl ⟨by omega,by omega⟩,_,rfl,_,_,rfl,rfl,.inl ⟨by decide,by decide⟩,_,_,rfl,rfl,_,rfl,_,_,rfl,rfl,.inl ⟨by decide,by decide⟩,_,_,rfl,rfl,_,_,rfl,rfl,(by show (0:Int) < _;decide),?_⟩
   have y0:=Int.emod_nonneg (mx * mx+48271 * mx+7 * (0+(i:Int))) (show (2147483647:Int)≠0 by decide)
   have y1:=Int.emod_lt_of_pos (mx * mx+48271 * mx+7 * (0+(i:Int))) (show (0:Int) < 2147483647 by decide)
   have fin:∀ (z:Int),∃ ns':List Int,aG H1 l (.lst (ns.map V.int++[.int z])) l=some (.lst (ns'.map V.int))/\ns'.length=i+1:=fun z=>⟨ns++[z],by rw [ai,List.map_append];rfl,by rw [List.length_append,hn];rfl⟩
   have sm:∀ o,aB H (aG H1 l o):=fun o b u e=>by rw [az (aK e h0)];exact s1 _ _ e
   refine⟨_,rfl,_,_,rfl,rfl,_,rfl,Gh (fun _=>?_) (fun _=>?_)⟩
   ·refine⟨_,rfl,.inl ⟨rfl,_,aU.of hl1⟩,_,rfl,_,_,rfl,rfl,(by show (0:Int) < _;decide),l,_,_,rfl,rfl,hl1,aY (by rw [List.length_map];omega),?_⟩
    refine⟨_,rfl,_,_,rfl,rfl,⟨by decide,by decide⟩,?_⟩
    obtain⟨ns',e,el⟩:=fin (num % 720720)
    exact⟨ns',_,_,_,rfl,sm _,e,el,y0,by omega⟩
   ·refine⟨_,rfl,.inl ⟨rfl,_,aU.of hl1⟩,_,rfl,_,_,rfl,rfl,.inr ⟨by decide,by decide⟩,_,rfl,_,_,rfl,rfl,.inl ⟨by decide,by decide⟩,_,_,rfl,rfl,_,_,rfl,rfl,(by show (0:Int) < _;decide),_,_,rfl,rfl,⟨by decide,by decide⟩,l,_,_,rfl,rfl,hl1,aY (by rw [List.length_map];omega),?_⟩
    obtain⟨ns',e,el⟩:=fin (((mx * mx+48271 * mx+7 * (0+(i:Int))) % 2147483647 * 69621+13 * (0+(i:Int))) % 2147483629 / 3)
    exact⟨ns',_,_,_,rfl,sm _,e,el,y0,by omega⟩
  ·rintro σ H1 ⟨ns,num,mx,x6,rfl,s1,hl1,hn,x0,x1⟩
   exact⟨_,rfl,k l ns H1 s1 h0 hl1 (by rw [hn];omega)⟩
theorem lV (T:d8 K mg t):bo P w K mg base dE 1 t.a_Q35 t.d_Q35 ["_law_tape", "_law_many"] (qm K):=by
 refine T.F_Q35.ok Em (fun vs H Q E h=>?_) (fun cdv A outer s H vs Q E hr h=>?_)
 ·obtain⟨_,_,_,rfl,_⟩:=h;rfl
 obtain⟨t₁,l,m,rfl,tp,hm0,hm1,k⟩:=h
 refine db.ok (ag (o0 (aJ dm (cf b8 (qv 0) aj) aj) (o4 (qv 0) aj jh))
   (ao (aI (aJ gO (cf b8 (cf b8 (qv 0) aj) (aJ gO (aJ i7 (cf b8 (qv 0) aj) aj) (aQ aO (by rfl) T.z_len boot_len (ae (cf b8 (qv 0) aj) ah aD)))) (qv 1))))) ?_
 extract_lets +lift
 try dsimp -zeta -zetaDelta only [Cx.nox,Cx.wish,bG]
 obtain⟨ns,p,ht,hl,nl,n0,n1⟩:=tp.ex
 refine⟨_,rfl,t₁,_,_,_,rfl,rfl,aU.of ht,rfl,_,_,rfl,rfl,_,rfl,t₁,_,_,_,rfl,rfl,ht,rfl,?_⟩
 have hl':∀ o,aG H t₁ o l=some (.lst (ns.map V.int)):=fun o=>by rw [az nl];exact hl
 have hlm:((ns.map V.int).length:Int)=(ns.length:Int):=by rw [List.length_map]
 obtain⟨z,hz⟩:=DC (ns:=ns) (r:=(p+1 - 1) % ((ns.map V.int).length:Int)) (Int.emod_nonneg _ (by omega)) (by have:=Int.emod_lt_of_pos (p+1 - 1) (show (0:Int) < ((ns.map V.int).length:Int) by omega);omega)
 refine⟨_,rfl,t₁,_,_,_,rfl,rfl,aU.of ai,rfl,_,rfl,t₁,_,_,_,rfl,rfl,aU.of ai,rfl,_,_,rfl,rfl,_,rfl,t₁,_,_,_,rfl,rfl,aU.of ai,rfl,l,_,rfl,.inl (aU.of (hl' _)),_,_,rfl,rfl,(by omega),l,_,_,_,rfl,rfl,aU.of (hl' _),hz,_,rfl,_,_,rfl,rfl,hm0,?_⟩
 exact k _ _ (Int.emod_nonneg _ (by omega)) (Int.emod_lt_of_pos _ hm0) ⟨ns,_,ai,hl' _,nl,n0,n1⟩
theorem zR (T:d8 K mg t):bo P w K mg base dE 1 t.a_Q36 t.d_Q36 ["_law_top", "_law_bottom"] (qr K):=by
 refine T.F_Q36.ok rX (fun vs H Q E h=>?_) (fun cdv A outer s H vs Q E hr h=>?_)
 ·obtain⟨_,_,rfl,_⟩:=h;rfl
 obtain⟨a,b,rfl,hb,hz,k⟩:=h
 refine db.ok (ag (yZ (i:=2) (j:=3) rfl rX.nd rfl rfl (by decide) rfl rfl (ae (aQ mE (by rfl) T.z_abs boot_abs (ae (qv 0) ah af)) (ae (qv 1) ah af) aR) rfl)
   (ag (jj PassesOwn.never (bj jm (qv 3) aj (bi _))
   (ao (yZ (i:=2) (j:=3) rfl rX.nd rfl rfl (by decide) rfl rfl (ae (qv 3) (ae (aJ gO (qv 2) (qv 3)) ah bv) af) rfl)))
   (ao (aI (cj (ae (aJ da (qv 0) (qv 2)) (ae (aJ da (qv 1) (qv 2)) ah bv) bv)))))) ?_
 extract_lets +lift
 try dsimp -zeta -zetaDelta only [Cx.nox,Cx.wish,bG]
 have gp:=bP (a:=a) hb
 have gb:=mj (a:=a) hb hz
 refine⟨_,rfl,_,rfl,_,rfl,_,_,rfl,?_⟩
 rw [tE]
 refine⟨fun m σ H'=>∃ (x y:Int),σ=[some (.int a),some (.int b),some (.int x),some (.int y)]/\H'=H/\0≤x/\0≤y/\Int.gcd x y=Int.gcd a b/\m=y.toNat,⟨_,_,_,rfl,rfl,by omega,by omega,(by simp [Int.gcd]),rfl⟩,?_⟩
 rintro m σ H' ⟨x,y,rfl,rfl,hx,hy,hg,rfl⟩
 refine⟨_,rfl,_,_,rfl,rfl,_,rfl,?_⟩
 by_cases c:y=0
 ·subst c
  refine cT (by decide) ?_
  have e:(x:Int)=(Int.gcd x 0:Nat):=by simp [Int.gcd];omega
  rw [hg] at e
  subst e
  exact⟨_,rfl,_,rfl,_,_,rfl,rfl,⟨gp,gb⟩,_,rfl,_,rfl,_,_,rfl,rfl,⟨gp,gb⟩,oo,fun p hp=>k p hp⟩
 ·refine d7 (by omega) ?_
  refine⟨_,fun _ _ z=>z,?_⟩
  refine⟨_,rfl,_,rfl,_,rfl,_,_,rfl,rfl,(by omega),_,_,rfl,?_⟩
  refine⟨_,?_,y,x % y,rfl,rfl,hy,Int.emod_nonneg _ c,?_,rfl⟩
  ·have:=Int.emod_lt_of_pos x (show 0 < y by omega)
   have:=Int.emod_nonneg x c
   omega
  ·rw [qX hx (by omega),hg]
theorem FF (T:d8 K mg t):bo P w K mg base dE 2 t.a_Q37 t.d_Q37 ["_law_one", "_law_other"] (qq K):=by
 refine T.F_Q37.ok El (fun vs H Q E h=>?_) (fun cdv A outer s H vs Q E hr h=>?_)
 ·obtain⟨_,_,_,_,_,_,rfl,_⟩:=h;rfl
 obtain⟨v,w,r,q,n,m,rfl,hv,hw,wr,wq,hz,k⟩:=h
 refine db.ok (ao (aI (cO (zR T) hr T.m_Q36 T.F_Q36.kp T.b_Q36 (ae (aJ dm (aJ cJ (cf aA (qv 0) aj) (cf aA (qv 1) aj)) (aJ cJ (cf aA (qv 1) aj) (cf aA (qv 0) aj))) (ae (aJ cJ (cf aA (qv 0) aj) (cf aA (qv 1) aj)) ah bv) bv)))) ?_
 extract_lets +lift
 try dsimp -zeta -zetaDelta only [Cx.nox,Cx.wish,bG]
 obtain⟨p,rfl,hv⟩:=hv
 obtain⟨p',rfl,hw⟩:=hw
 have c1:=bR wr.top (show n≤8990 by omega)
 have c2:=bR wr.bot (show n≤8990 by omega)
 have c3:=bR wq.top (show m≤8990 by omega)
 have c4:=bR wq.bot (show m≤8990 by omega)
 refine⟨_,rfl,p,_,_,_,rfl,rfl,hv,rfl,_,rfl,p',_,_,_,rfl,rfl,hw,rfl,_,_,rfl,rfl,⟨c1,c4⟩,_,rfl,p',_,_,_,rfl,rfl,hw,rfl,_,rfl,p,_,_,_,rfl,rfl,hv,rfl,_,_,rfl,rfl,⟨c3,c2⟩,_,_,rfl,rfl,_,rfl,p,_,_,_,rfl,rfl,hv,rfl,_,rfl,p',_,_,_,rfl,rfl,hw,rfl,_,_,rfl,rfl,⟨c2,c4⟩,_,_,rfl,Int.mul_pos wr.pos wq.pos,bR (F1 wr.bot wq.bot) (by omega),k⟩
theorem zU (T:d8 K mg t):bo P w K mg base dE 1 t.a_Q15 t.d_Q15 ["_law_one", "_law_other"] (lC K):=by
 refine T.F_Q15.ok Ew (fun vs H Q E h=>?_) (fun cdv A outer s H vs Q E hr h=>?_)
 ·obtain⟨_,_,_,_,_,_,rfl,_⟩:=h;rfl
 obtain⟨v,w,r,q,n,m,rfl,hv,hw,wr,wq,hz,k⟩:=h
 refine db.ok (ao (aI (eQ j7 (aJ cJ (cf aA (qv 0) aj) (cf aA (qv 1) aj)) (aJ cJ (cf aA (qv 1) aj) (cf aA (qv 0) aj)) (bi _)))) ?_
 extract_lets +lift
 try dsimp -zeta -zetaDelta only [Cx.nox,Cx.wish,bG]
 obtain⟨p,rfl,hv⟩:=hv
 obtain⟨p',rfl,hw⟩:=hw
 have c1:=bR wr.top (show n≤8990 by omega)
 have c2:=bR wr.bot (show n≤8990 by omega)
 have c3:=bR wq.top (show m≤8990 by omega)
 have c4:=bR wq.bot (show m≤8990 by omega)
 refine⟨_,rfl,p,_,_,_,rfl,rfl,hv,rfl,_,rfl,p',_,_,_,rfl,rfl,hw,rfl,_,_,rfl,rfl,⟨c1,c4⟩,_,rfl,p',_,_,_,rfl,rfl,hw,rfl,_,rfl,p,_,_,_,rfl,rfl,hv,rfl,_,_,rfl,rfl,⟨c3,c2⟩,_,_,rfl,rfl,k⟩
theorem FN (T:d8 K mg t):bo P w K mg base dE 3 t.a_Q26 t.d_Q26 ["_law_some"] (oC K):=by
 refine T.F_Q26.ok oQ (fun vs H Q E h=>?_) (fun cdv A outer s H vs Q E hr h=>?_)
 ·obtain⟨_,_,_,rfl,_⟩:=h;rfl
 obtain⟨a,xs,rs,rfl,hS,al,bq,hl,k⟩:=h
 refine db.ok (ag (cE 1 oQ.nd (cj (ae aj (ae aj ah aT) aT)))
   (ag (cG PassesOwn.never rfl (dS (qv 0)) (aH (i:=2) oQ.nd rfl (by first | exact Or.inl rfl | exact Or.inr rfl))
   (ao (cE 1 oQ.nd (cO (FF T) hr T.m_Q37 T.F_Q37.kp T.b_Q37 (ae (qv 1) (ae (qv 2) ah af) af)))))
   (ao (aI (qv 1))))) ?_
 extract_lets +lift
 try dsimp -zeta -zetaDelta only [Cx.nox,Cx.wish,bG]
 have hlen:=al.len
 refine⟨oo,fun p0 hp0=>?_⟩
 have s0:=ap hp0 (.tup [.int 0,.int 1])
 refine⟨_,rfl,a,rfl,⟨_,s0.seq hS⟩,js (K:=K) (a:=a) (xs:=xs) (fun i σ H'=>∃ (u:V) (x3:Option V),σ=[some (.ref a),some u,x3]/\aB H H'/\RV K H' u (eW (rs.take i))) ⟨_,none,rfl,s0,RV.of ai⟩ (fun i σ H1 _ ⟨_,_,_,s1,_⟩=>s1.seq hS) ?_ ?_⟩
 ·rintro i y σ H1 hi ⟨u,x3,rfl,s1,ru⟩
  obtain⟨r,hr,rv⟩:=al.at hi
  have br:=bq r (List.mem_of_getElem? hr)
  have hil:=(List.getElem?_eq_some_iff.mp hr).1
  have wu:Wf 3640 (eW (rs.take i)):=w4 ((kC (N:=1000000000000000) (by decide) fun x hx=>bq x (List.mem_of_mem_take hx)).mono (Nat.dvd_refl _) (by rw [List.length_take];omega))
  have wr:Wf 3640 r:=w4 (br.mono (Nat.dvd_refl _) (by decide))
  refine⟨_,rfl,_,rfl,u,y,eW (rs.take i),r,3640,3640,rfl,ru,rv.mono (aN.same s1),wu,wr,by decide,fun p hp=>?_⟩
  have s2:=ap hp (.tup [.int (bM (eW (rs.take i)) r).1,.int (bM (eW (rs.take i)) r).2])
  refine⟨_,_,rfl,s1.trans s2,?_⟩
  rw [xz hr]
  exact RV.of ai
 ·rintro σ H1 ⟨u,x3,rfl,s1,ru⟩
  rw [hlen,List.take_length] at ru
  exact⟨_,rfl,k u H1 s1 ru⟩
theorem zS (T:d8 K mg t):bo P w K mg base dE 2 t.a_Q27 t.d_Q27 ["_law_speeds"] (oE K):=by
 refine T.F_Q27.ok Ep (fun vs H Q E h=>?_) (fun cdv A outer s H vs Q E hr h=>?_)
 ·obtain⟨_,_,_,rfl,_⟩:=h;rfl
 obtain⟨l,xs,rs,rfl,hS,al,am,l24,fl,k⟩:=h
 refine db.ok (ao (aI (eQ (sI hr) (bZ (N':=["_law_k", "_law_speeds"]) (src:=[none,some 0]) rfl (by exact (dg rfl T.z_range (ae (aJ i7 (aQ aO (by rfl) T.z_len boot_len (ae (qv 0) ah af)) aj) ah bv))) (fun _ _ _ _ _=>(by exact (by exact aH (i:=0) (by show List.Nodup (["_law_k", "_law_speeds"]:List Str);decide +kernel) (by exact rfl) (by first | exact Or.inl rfl | exact Or.inr rfl)))) (fun _ _ _ _ _=>(dQ (cU (by exact (kJ (zU T) (by exact hr.mono (by decide)) (by exact rfl) T.m_Q15 T.F_Q15.kp T.b_Q15 (by exact .nil) (by exact fm) (ae (by exact (bL (cB (K:=K) (by exact rfl)) (by exact (qv 1)) (by exact (qv 0)) (by exact fun _ _=>rfl))) (ae (by exact (bL (cB (K:=K) (by exact rfl)) (by exact (qv 1)) (by exact (aJ dm (by exact (qv 0)) aj)) (by exact fun _ _=>rfl))) ah aD) aD)))))) (fun _ _ _ _ _=>(by exact (by exact (qv 0)))) (by exact⟨rfl,rfl,rfl,rfl,trivial⟩) rfl (by decide +kernel) rfl (by decide +kernel) (by exact bB rfl ⟨rfl,trivial⟩)) (ck ah) (bi _)))) ?_
 extract_lets +lift
 try dsimp -zeta -zetaDelta only [Cx.nox,Cx.wish,bG]
 have lx:=al.len
 refine⟨_,rfl,l,_,rfl,.inl hS,_,_,rfl,rfl,_,rfl,by omega,by omega,fun D hD=>cL (tX (lo:=0)) (fun _=>false) (fun i=>V.int (i:Nat)) hD (by omega) (fun i x H' hi s' hx R E kR kE=>?_) fun H1 s1 h1=>?_⟩
 ·obtain rfl:=hx
  have i1:i+1 < xs.length:=by omega
  obtain⟨x1,h1⟩:∃ x,xs[i]?=some x:=⟨_,List.getElem?_eq_getElem (by omega)⟩
  obtain⟨x2,h2⟩:∃ x,xs[i+1]?=some x:=⟨_,List.getElem?_eq_getElem (by omega)⟩
  obtain⟨r1,q1,v1⟩:=al.at h1
  obtain⟨r2,q2,v2⟩:=al.at h2
  have f:=fl i (by omega)
  rw [av (0,1) q1,av (0,1) q2] at f
  have t':=aN.same (K:=K) s'
  rw [Int.zero_add]
  refine⟨iz.set rfl,_,rfl,_,rfl,l,_,_,_,rfl,rfl,s'.seq hS,bh h1,_,rfl,_,rfl,_,_,rfl,rfl,l,_,_,_,rfl,rfl,s'.seq hS,bh (j:=i+1) h2,x1,x2,r1,r2,3640,3640,rfl,v1.mono t',v2.mono t',C5 (am _ (List.mem_of_getElem? q1)),C5 (am _ (List.mem_of_getElem? q2)),by decide,?_⟩
  rw [f]
  exact⟨_,rfl,fj (kE rfl _ (aB.refl _))⟩
 ·replace h1:H1 D=some (.lst []):=by rw [h1];simp
  refine⟨(by show 0≤sizeLine;exact Nat.zero_le _),fun q0 hq0=>?_⟩
  have s2:=ap hq0 (.lst [])
  exact⟨.list [],.list [],.lst (aU.of (s2 _ _ h1)) .nil,.lst (aU.of ai) .nil,rfl,rfl,(by decide),k _ (s1.trans s2)⟩
theorem FV (T:d8 K mg t):bo P w K mg base dE 1 t.a_Q17 t.d_Q17 ["self"] (lH K t.c_Keeper):=by
 refine T.F_Q17.ok Ev (fun vs H Q E h=>?_) (fun cdv A outer s H vs Q E hr h=>?_)
 ·obtain⟨_,_,rfl,_⟩:=h;rfl
 obtain⟨x,dx,rfl,hx,k⟩:=h
 refine db.ok (ag (oZ (qv 0) aj rfl)
   (ag (oZ (qv 0) (ck ah) rfl)
   (ag (oZ (qv 0) (ck ah) rfl)
   (ao (oZ (qv 0) (ck ah) rfl))))) ?_
 extract_lets +lift
 try dsimp -zeta -zetaDelta only [Cx.nox,Cx.wish,bG]
 refine⟨_,rfl,x,_,_,_,rfl,hx,T.cl_Keeper,T.n_Keeper_turn,by decide,?_⟩
 refine⟨(by show 0≤sizeLine;exact Nat.zero_le _),fun lk hlk=>⟨_,rfl,x,_,_,_,rfl,ap hlk _ _ _ ai,T.cl_Keeper,T.n_Keeper_known,(by show 1 < 1000;decide),?_⟩⟩
 refine⟨(by show 0≤sizeLine;exact Nat.zero_le _),fun lr hlr=>⟨_,rfl,x,_,_,_,rfl,ap hlr _ _ _ ai,T.cl_Keeper,T.n_Keeper_rest,(by show 2 < 1000;decide),?_⟩⟩
 refine⟨(by show 0≤sizeLine;exact Nat.zero_le _),fun ld hld=>⟨_,rfl,x,_,_,_,rfl,ap hld _ _ _ ai,T.cl_Keeper,T.n_Keeper_done,(by show 3 < 1000;decide),?_⟩⟩
 have nk:x≠lk:=aK ai hlk
 have nr:x≠lr:=aK ai hlr
 have nd:x≠ld:=aK ai hld
 have n1:lk≠lr:=aK (by rw [az nk.symm];exact ai) hlr
 have n2:lk≠ld:=aK (by rw [az nk.symm,az n1,az nk.symm];exact ai) hld
 have n3:lr≠ld:=aK (by rw [az nr.symm];exact ai) hld
 refine k lk lr ld _ (fun b o nb e=>?_) (by rw [az nk.symm] at hlk;exact hlk) (by rw [az nr.symm,az n1.symm,az nr.symm] at hlr;exact hlr) (by rw [az nd.symm,az n3.symm,az nd.symm,az n2.symm,az nd.symm] at hld;exact hld) ⟨⟨dx,ai⟩,⟨[],(by rw [az nk.symm,az n2,az nk.symm,az n1,az nk.symm];exact ai),.nil⟩,⟨[],(by rw [az nr.symm,az n3,az nr.symm];exact ai),.nil⟩,⟨[],(by rw [az nd.symm];exact ai),.nil⟩,n1,n2,n3⟩
 rw [az nb]
 refine ap hld _ _ _ ?_
 rw [az nb]
 refine ap hlr _ _ _ ?_
 rw [az nb]
 refine ap hlk _ _ _ ?_
 rw [az nb]
 exact e
theorem FU (T:d8 K mg t):bo P w K mg base dE 5 t.a_Q18 t.d_Q18 ["self", "last", "amount"] (lJ K t.c_Keeper):=by
 refine T.F_Q18.ok xV (fun vs H Q E h=>?_) (fun cdv A outer s H vs Q E hr h=>?_)
 ·obtain⟨_,_,_,_,_,_,_,_,_,rfl,_⟩:=h;rfl
 obtain⟨a,lk,lr,ld,s,v,u,dv,du,rfl,kp,k20,r20,hv,hu,cb,k⟩:=h
 refine db.ok (ag (cE 3 xV.nd (cj (ae (cV (qv 0) rfl) (ae (qv 1) (ae (qv 2) ah af) af) dZ)))
   (ag (cM (fD (cU (cO (FC T) hr T.m_Q40 T.F_Q40.kp T.b_Q40 (ae (qv 3) ah af)))) (ao eY) bH)
   (ag (cM (bj zM (aQ aO (by rfl) T.z_len boot_len (ae (cV (qv 0) rfl) ah dZ)) (c6 (v:=.int (20)) rfl T.m_MOST_WORKS ⟨_,rfl⟩) (bi _)) (ao eY) bH)
   (ag (cD (fO PySem.F.plainAttrs_list PySem.F.slot_list_append PySem.F.type_list_append bU (cV (qv 0) rfl) (ae (qv 3) ah af)))
   (ag (cD (fO PySem.F.plainAttrs_list PySem.F.slot_list_append PySem.F.type_list_append bU (cV (qv 0) rfl) (ae (qv 2) ah af)))
   (ao (aI (aJ i7 (aQ aO (by rfl) T.z_len boot_len (ae (cV (qv 0) rfl) ah dZ)) aj)))))))) ?_
 extract_lets +lift
 try dsimp -zeta -zetaDelta only [Cx.nox,Cx.wish,bG]
 obtain⟨dx,hi⟩:=kp.ins
 obtain⟨xk,hk,ak⟩:=kp.hk
 obtain⟨xr,hr_,ar⟩:=kp.hr
 have lxk:=ak.len
 have lxr:=ar.len
 refine⟨_,rfl,a,_,_,_,_,rfl,hi,T.cl_Keeper,T.n_Keeper_turn,rfl,_,rfl,_,rfl,JF,fun pw hpw=>?_⟩
 obtain⟨s1,q1⟩:=pF hpw (.tup [.int s.tn,v,u])
 generalize aG H pw _=H1 at s1 q1 ⊢
 refine⟨_,rfl,.ref pw,.tuple [.int s.tn,dv,du],rfl,.tup (bt.of q1) (.cons (.int _) (.cons (hv.same s1) (.cons (hu.same s1) .nil))),_,rfl,?_⟩
 rw [mD,Bool.and_eq_true,decide_eq_true_eq] at cb
 obtain⟨cw,c20⟩:=cb
 rw [cw]
 refine fj ?_
 have hi1:=s1 _ _ hi
 have hk1:=s1 _ _ hk
 refine⟨_,rfl,a,_,_,_,_,rfl,hi1,T.cl_Keeper,T.n_Keeper_known,rfl,lk,_,rfl,.inl (aU.of hk1),_,_,rfl,rfl,_,rfl,?_⟩
 refine cT (by omega) ?_
 obtain⟨l,r,el,er,_,_,_,_⟩:=uO cw
 subst el
 subst er
 obtain rfl:v=.int (l:Nat):=by cases hv;rfl
 refine⟨_,rfl,a,_,_,_,_,rfl,hi1,T.cl_Keeper,T.n_Keeper_known,rfl,.inl ⟨rfl,_,aU.of hk1⟩,_,rfl,lk,_,_,rfl,rfl,hk1,aY (by omega),?_⟩
 have nka:lk≠a:=fun z=>by subst z;rw [hi] at hk;cases hk
 have nra:lr≠a:=fun z=>by subst z;rw [hi] at hr_;cases hr_
 have hi2:aG H1 lk (.lst (xk++[.ref pw])) a=some (.ins t.c_Keeper dx (A3 s.tn lk lr ld)):=by rw [az nka.symm];exact hi1
 have hr2:aG H1 lk (.lst (xk++[.ref pw])) lr=some (.lst xr):=by rw [az kp.n1.symm];exact s1 _ _ hr_
 have hk2:aG H1 lk (.lst (xk++[.ref pw])) lk=some (.lst (xk++[.ref pw])):=ai
 have t2:=aN.up (K:=K) hk1 (xk++[.ref pw])
 have f2:∀ b o,b≠lk->H1 b=some o->aG H1 lk (.lst (xk++[.ref pw])) b=some o:=fun b o nb e=>by rw [az nb];exact e
 generalize aG H1 lk _=H2 at hi2 hr2 hk2 t2 f2 ⊢
 refine⟨_,rfl,a,_,_,_,_,rfl,hi2,T.cl_Keeper,T.n_Keeper_rest,rfl,.inl ⟨rfl,_,aU.of hr2⟩,_,rfl,lr,_,_,rfl,rfl,hr2,aY (by omega),?_⟩
 have hi3:aG H2 lr (.lst (xr++[u])) a=some (.ins t.c_Keeper dx (A3 s.tn lk lr ld)):=by rw [az nra.symm];exact hi2
 have hk3:aG H2 lr (.lst (xr++[u])) lk=some (.lst (xk++[.ref pw])):=by rw [az kp.n1];exact hk2
 have t3:=aN.up (K:=K) hr2 (xr++[u])
 have hr3:aG H2 lr (.lst (xr++[u])) lr=some (.lst (xr++[u])):=ai
 have f3:∀ b o,b≠lr->H2 b=some o->aG H2 lr (.lst (xr++[u])) b=some o:=fun b o nb e=>by rw [az nb];exact e
 generalize aG H2 lr _=H3 at hi3 hk3 t3 hr3 f3 ⊢
 refine⟨_,rfl,a,_,_,_,_,rfl,hi3,T.cl_Keeper,T.n_Keeper_known,rfl,lk,_,rfl,.inl (aU.of hk3),_,_,rfl,rfl,?_⟩
 obtain⟨xd,hd,ad⟩:=kp.hd
 have t1:=aN.same (K:=K) s1
 have t13:=t2.trans t3
 have t03:=t1.trans t13
 have rvu:RV K H1 u r:=AF (hu.same s1)
 have e1:(((xk++[V.ref pw]).length:Nat):Int) - 1=(s.kn.length:Nat):=by rw [List.length_append,List.length_singleton];omega
 have q:Q (.int (s.kn.length:Nat)) H3:=by
  refine k l r H3 rfl rfl (fun b o b1 b2 b3 _ e=>f3 b o b3 (f2 b o b2 (s1 _ _ e))) ⟨⟨dx,hi3⟩,⟨_,hk3,?_⟩,⟨_,hr3,?_⟩,⟨xd,f3 _ _ kp.n3.symm (f2 _ _ kp.n2.symm (s1 _ _ hd)),ad.mono fun _ _ z=>z.mono t03⟩,kp.n1,kp.n2,kp.n3⟩
  ·exact (ak.mono fun _ _ z=>z.mono t03).snoc ⟨pw,u,rfl,t13 _ _ (bt.of q1),rvu.mono t13⟩
  ·exact (ar.mono fun _ _ z=>z.mono t03).snoc (rvu.mono t13)
 rw [← e1] at q
 exact q
theorem FL (T:d8 K mg t):bo P w K mg base dE 7 t.a_Q28 t.d_Q28 ["self"] (oJ K t.c_Keeper):=by
 refine T.F_Q28.ok oP (fun vs H Q E h=>?_) (fun cdv A outer s H vs Q E hr h=>?_)
 ·obtain⟨_,_,_,_,_,rfl,_⟩:=h;rfl
 obtain⟨a,lk,lr,ld,s,rfl,kp,o,ht,k⟩:=h
 refine db.ok (ag (cM (bj zM (cV (qv 0) rfl) (c6 (v:=.int (24)) rfl T.m_TURNS ⟨_,rfl⟩) (bi _)) (ao eY) bH)
   (ag (cE 1 oP.nd (cO (ID T) hr T.m_Q5 T.F_Q5.kp T.b_Q5 (ae (cV (qv 0) rfl) (ae (cV (qv 0) rfl) (ae (cV (qv 0) rfl) ah dZ) dZ) dZ)))
   (ag (cE 2 oP.nd (cO (FQ T) hr T.m_Q21 T.F_Q21.kp T.b_Q21 (ae (cf aA (cO (FR T) hr T.m_Q20 T.F_Q20.kp T.b_Q20 (ae (cj (ae (cf aA (qv 1) aj) (ae (cj ah) ah dY) aD)) ah dY)) (cV (qv 0) rfl)) (ae (cf aA (qv 1) aj) ah aD) aD)))
   (ag (cG PassesOwn.never rfl (eZ (qv 2)) (aH (i:=3) oP.nd rfl (by first | exact Or.inl rfl | exact Or.inr rfl))
   (ao (o0 (cO (sL T) hr T.m_Q44 T.F_Q44.kp T.b_Q44 (ae (cf b8 (cV (qv 0) rfl) (cf aA (qv 3) aj)) (ae (cf aA (qv 3) aj) ah aD) aD)) (o4 (cV (qv 0) rfl) (cf aA (qv 3) aj) jh))))
   (ag (cD (fO PySem.F.plainAttrs_list PySem.F.slot_list_append PySem.F.type_list_append bU (cV (qv 0) rfl) (ae (qv 2) ah af)))
   (ag (vJ (qv 0) aj Gm)
   (ao (aI (qv 2))))))))) ?_
 extract_lets +lift
 try dsimp -zeta -zetaDelta only [Cx.nox,Cx.wish,bG]
 obtain⟨dx,hi⟩:=kp.ins
 obtain⟨xk,hk,ak⟩:=kp.hk
 obtain⟨xr,hr_,ar⟩:=kp.hr
 obtain⟨xd,hd_,ad⟩:=kp.hd
 have nka:lk≠a:=fun z=>by subst z;rw [hi] at hk;cases hk
 have nra:lr≠a:=fun z=>by subst z;rw [hi] at hr_;cases hr_
 have nda:ld≠a:=fun z=>by subst z;rw [hi] at hd_;cases hd_
 refine⟨_,rfl,a,_,_,_,_,rfl,hi,T.cl_Keeper,T.n_Keeper_turn,rfl,_,_,rfl,rfl,_,rfl,?_⟩
 refine cT (by omega) ?_
 have o20:=o.few
 have ole:=o.len
 refine⟨_,rfl,a,_,_,_,_,rfl,hi,T.cl_Keeper,T.n_Keeper_known,rfl,_,rfl,a,_,_,_,_,rfl,hi,T.cl_Keeper,T.n_Keeper_rest,rfl,_,rfl,a,_,_,_,_,rfl,hi,T.cl_Keeper,T.n_Keeper_turn,rfl,lk,lr,xk,xr,s.kn,s.rs,s.tn,rfl,.inl (aU.of hk),ak,aU.of hr_,ar,o.len,by omega,fun p l u H1 s1 hp wv hl=>?_⟩
 have wok:=h9 o ht
 have ok:∀ w∈bc s.kn s.rs s.tn,bF w:=fun w hw=>(wok w hw).1
 have wl:=cX s.kn s.rs s.tn
 have w20:(bc s.kn s.rs s.tn).length≤20:=by
  have:=gh s.rs
  omega
 have gk:=fun lys hly=>IZ (lys:=lys) o ht hly
 have pk:=fun lys hly=>gj (lys:=lys) ok w20 hly
 generalize bc s.kn s.rs s.tn=ws at ok w20 wv gk pk
 refine⟨_,rfl,p,_,_,_,rfl,rfl,hp,rfl,(by show 0≤sizeLine;exact Nat.zero_le _),fun pe he=>⟨oo,fun ps hs=>?_⟩⟩
 have e6:=ap he (.tup [])
 have e7:=ap hs (.tup [u,.ref pe])
 have h6:aG (aG H1 pe (.tup [])) ps (.tup [u,.ref pe]) pe=some (.tup []):=e7 _ _ ai
 have h7:aG (aG H1 pe (.tup [])) ps (.tup [u,.ref pe]) ps=some (.tup [u,.ref pe]):=ai
 have e67:=e6.trans e7
 generalize aG (aG H1 pe _) ps _=H7 at h6 h7 e67 ⊢
 have sa:Ml K H7 (.ref ps) ws:=⟨⟨ps,u,pe,rfl,bt.of h7,wv.mono (aN.same e67),bt.of h6⟩,w20,ok⟩
 refine⟨.ref ps,ws,rfl,sa,fun lys x H8 s8 ly d=>?_⟩
 have G:=gk lys ly
 have P24:=(pk lys ly).len
 generalize (c5 ws (aP ws lys)).2=pl at d G P24
 obtain⟨px,xs,rfl,hx,alx⟩:=CQ d
 have lx:=alx.len
 obtain⟨xt,hxt⟩:∃ xt,xs[s.tn]?=some xt:=⟨_,List.getElem?_eq_getElem (by omega)⟩
 obtain⟨q0,hq0,tq⟩:=alx.at hxt
 rw [av [] hq0] at G
 have s08:=(s1.trans e67).trans s8
 have s18:=e67.trans s8
 have hi8:=s08 _ _ hi
 refine⟨_,rfl,a,_,_,_,_,rfl,hi8,T.cl_Keeper,T.n_Keeper_turn,rfl,px,_,_,_,rfl,rfl,hx,bh hxt,_,rfl,p,_,_,_,rfl,rfl,aN.same (K:=K) s18 _ _ hp,rfl,xt,l,q0,aF s.rs,rfl,tq,aU.of (s18 _ _ hl),G.lt,(by have:=G.few;omega),fun v H9 s9 tv=>?_⟩
 have s09:=s08.trans s9
 have qp:=G.pc
 have qn:=G.nd
 have kk:=k q0
 have bq:∀ r∈s.rs,Wf 800 r:=fun r hr=>((o.am r hr).1.mono (ve (by omega)) (Nat.le_refl _)).wf (by decide) (by decide) (by decide)
 generalize bY (aF s.rs) q0=q at tv qp qn kk
 obtain⟨pv,xs9,rfl,hv,alv⟩:=tv
 have lv:=alv.len
 have t09:=aN.same (K:=K) s09
 have hi9:=s09 _ _ hi
 have hr9:=s09 _ _ hr_
 have hd9:=s09 _ _ hd_
 have hk9:=s09 _ _ hk
 let Iv1:Nat->L2.St->Hp->Prop:=fun i σ H'=>∃ (ys:List V) (x3:Option V),σ=[some (.ref a),some (.ref p),some (.ref pv),x3]/\(∀ b o,b≠lr->H9 b=some o->H' b=some o)/\H' lr=some (.lst ys)/\cn (RV K H') ys (eX s.rs (q.take i))
 refine⟨_,rfl,pv,rfl,⟨_,hv⟩,ik (K:=K) (a:=pv) (xs:=xs9) Iv1 ⟨xr,none,rfl,fun b o _ e=>e,hr9,ar.mono fun _ _ z=>z.mono t09⟩ (fun i σ H' _ ⟨_,_,_,k',h',_⟩=>aN.steps hr9 k' ⟨_,h'⟩ _ _ hv) ?_ ?_⟩
 ·rintro i x σ HI hx ⟨ys,x3,rfl,kI,hrI,alI⟩
  obtain⟨c,hc,pc,xa,rfl,hSc,rx⟩:=alv.at hx
  have tI:=aN.steps (K:=K) hr9 kI ⟨_,hrI⟩
  obtain⟨lc,ac⟩:=qp c (List.mem_of_getElem? hc)
  have cur:=jf (q.take i) s.rs (xi qn hc)
  have lI:=alI.len
  rw [kD] at lI
  obtain⟨yv,hyv⟩:∃ yv,ys[c.1]?=some yv:=⟨_,List.getElem?_eq_getElem (by omega)⟩
  obtain⟨r,hrd,ry⟩:=alI.at hyv
  have er:r=s.rs.getD c.1 (0,1):=by rw [← cur];exact (av (0,1) hrd).symm
  have wr:Wf 800 r:=by rw [er];exact bq _ (cN lc)
  have hiI:=kI _ _ nra.symm hi9
  refine⟨_,rfl,a,_,_,_,_,rfl,hiI,T.cl_Keeper,T.n_Keeper_rest,rfl,_,rfl,pc,_,_,_,rfl,rfl,tI _ _ hSc,rfl,lr,_,_,_,rfl,rfl,aU.of hrI,bh hyv,_,rfl,pc,_,_,_,rfl,rfl,tI _ _ hSc,rfl,yv,xa,r,c.2,800,800,rfl,ry,rx.mono tI,wr,ac.wf,by decide,fun w_ HJ sJ rw_=>?_⟩
  have hiJ:=sJ _ _ hiI
  have hrJ:=sJ _ _ hrI
  have tJ:=aN.same (K:=K) sJ
  refine⟨_,rfl,a,_,_,_,_,rfl,hiJ,T.cl_Keeper,T.n_Keeper_rest,rfl,_,rfl,pc,_,_,_,rfl,rfl,tJ _ _ (tI _ _ hSc),rfl,lr,ys,_,c.1,rfl,rfl,hrJ,pM (by omega),?_⟩
  have tu:=aN.up (K:=K) hrJ (ys.set c.1 w_)
  refine⟨_,_,rfl,fun b o' nb e=>by rw [az nb];exact sJ _ _ (kI b o' nb e),ai,?_⟩
  rw [List.take_add_one,hc]
  show cn _ _ (eX s.rs (q.take i++[c]))
  rw [xC,cur,← er]
  exact cn.setI (rw_.mono tu) c.1 (alI.mono fun _ _ z=>(z.mono tJ).mono tu)
 ·rintro σ HI ⟨ys,x3,rfl,kI,hrI,alI⟩
  rw [lv,List.take_length] at alI
  have tI:=aN.steps (K:=K) hr9 kI ⟨_,hrI⟩
  have hiI:=kI _ _ nra.symm hi9
  have hdI:=kI _ _ kp.n3.symm hd9
  have hkI:=kI _ _ kp.n1 hk9
  have lxd:=ad.len
  have ldl:=o.dl
  refine⟨_,rfl,a,_,_,_,_,rfl,hiI,T.cl_Keeper,T.n_Keeper_done,rfl,.inl ⟨rfl,_,aU.of hdI⟩,_,rfl,ld,_,_,rfl,rfl,hdI,aY (by omega),?_⟩
  have hiL:aG HI ld (.lst (xd++[.ref pv])) a=some (.ins t.c_Keeper dx (A3 s.tn lk lr ld)):=by rw [az nda.symm];exact hiI
  have tL:=aN.up (K:=K) hdI (xd++[.ref pv])
  have fL:∀ b o',b≠ld->HI b=some o'->aG HI ld (.lst (xd++[.ref pv])) b=some o':=fun b o' nb e=>by rw [az nb];exact e
  have hdL:aG HI ld (.lst (xd++[.ref pv])) ld=some (.lst (xd++[.ref pv])):=ai
  generalize aG HI ld _=HL at hiL tL fL hdL ⊢
  refine⟨_,rfl,a,_,_,_,_,rfl,hiL,T.cl_Keeper,T.n_Keeper_turn,rfl,_,_,rfl,rfl,dx,_,hiL,(by show 4 < 1000;decide),?_⟩
  have eF:gD (Str.ofString "turn") (V.int ((s.tn:Int)+1)) (A3 s.tn lk lr ld)=A3 (s.tn+1) lk lr ld:=rfl
  rw [eF]
  have tF:aN K HL (aG HL a (.ins t.c_Keeper dx (A3 (s.tn+1) lk lr ld))):=fun b xs h=>by
   rcases h with (h | ⟨o',h⟩) | h
   ·exact .inl (.inl (by rw [az (fun z=>by subst z;rw [h] at hiL;cases hiL)];exact h))
   ·exact .inl (.inr ⟨o',by rw [az (fun z=>by subst z;rw [h] at hiL;cases hiL)];exact h⟩)
   ·exact .inr h
  have fF:∀ b o',b≠a->HL b=some o'->aG HL a (.ins t.c_Keeper dx (A3 (s.tn+1) lk lr ld)) b=some o':=fun b o' nb e=>by rw [az nb];exact e
  have hiF:aG HL a (.ins t.c_Keeper dx (A3 (s.tn+1) lk lr ld)) a=some (.ins t.c_Keeper dx (A3 (s.tn+1) lk lr ld)):=ai
  generalize aG HL a _=HF at tF fF hiF ⊢
  have tIF:=tL.trans tF
  have t9F:=tI.trans tIF
  refine⟨_,rfl,kk (.ref pv) HF G (fun b o' b1 b2 b3 b4 e=>fF b o' b1 (fL b o' b4 (kI b o' b3 (s09 _ _ e)))) ⟨⟨dx,hiF⟩,⟨xk,fF _ _ nka (fL _ _ kp.n2 hkI),ak.mono fun _ _ z=>(z.mono t09).mono t9F⟩,⟨ys,fF _ _ nra (fL _ _ kp.n3 hrI),alI.mono fun _ _ z=>z.mono tIF⟩,⟨xd++[.ref pv],fF _ _ nda hdL,(ad.mono fun _ _ z=>(z.mono t09).mono t9F).snoc ⟨pv,xs9,rfl,t9F _ _ hv,alv.mono fun _ _ z=>z.mono t9F⟩⟩,kp.n1,kp.n2,kp.n3⟩ ⟨pv,xs9,rfl,t9F _ _ hv,alv.mono fun _ _ z=>z.mono t9F⟩⟩
theorem pC (T:d8 K mg t):bo P w K mg base dE 1 t.a_Q22 t.d_Q22 ["self"] (mV K t.c_Keeper):=by
 refine T.F_Q22.ok Es (fun vs H Q E h=>?_) (fun cdv A outer s H vs Q E hr h=>?_)
 ·obtain⟨_,_,_,_,_,rfl,_⟩:=h;rfl
 obtain⟨a,lk,lr,ld,s,rfl,kp,k⟩:=h
 refine db.ok (ao (aI (cV (qv 0) rfl))) ?_
 extract_lets +lift
 try dsimp -zeta -zetaDelta only [Cx.nox,Cx.wish,bG]
 obtain⟨dx,hi⟩:=kp.ins
 exact⟨_,rfl,a,_,_,_,_,rfl,hi,T.cl_Keeper,T.n_Keeper_turn,rfl,k⟩
theorem zW (T:d8 K mg t):bo P w K mg base dE 1 t.a_Q10 t.d_Q10 ["self"] (kq K t.c_Keeper):=by
 refine T.F_Q10.ok EA (fun vs H Q E h=>?_) (fun cdv A outer s H vs Q E hr h=>?_)
 ·obtain⟨_,_,_,_,_,rfl,_⟩:=h;rfl
 obtain⟨a,lk,lr,ld,s,rfl,kp,k⟩:=h
 refine db.ok (ao (aI (bK bn (by rfl) T.z_tuple boot_tuple (ae (cV (qv 0) rfl) ah dZ)))) ?_
 extract_lets +lift
 try dsimp -zeta -zetaDelta only [Cx.nox,Cx.wish,bG]
 obtain⟨dx,hi⟩:=kp.ins
 obtain⟨xs,h1,h2⟩:=kp.hk
 refine⟨_,rfl,a,_,_,_,_,rfl,hi,T.cl_Keeper,T.n_Keeper_known,rfl,_,xs,rfl,.inl ⟨aU.of h1,fun l hl=>?_⟩⟩
 have z:=ap hl (.tup xs)
 exact k _ _ z ⟨l,xs,rfl,bt.of ai,h2.mono fun _ _ q=>q.mono (aN.same z)⟩
theorem FT (T:d8 K mg t):bo P w K mg base dE 1 t.a_Q19 t.d_Q19 ["self"] (lG K t.c_Keeper):=by
 refine T.F_Q19.ok Eu (fun vs H Q E h=>?_) (fun cdv A outer s H vs Q E hr h=>?_)
 ·obtain⟨_,_,_,_,_,rfl,_⟩:=h;rfl
 obtain⟨a,lk,lr,ld,s,rfl,kp,k⟩:=h
 refine db.ok (ao (aI (bK bn (by rfl) T.z_tuple boot_tuple (ae (cV (qv 0) rfl) ah dZ)))) ?_
 extract_lets +lift
 try dsimp -zeta -zetaDelta only [Cx.nox,Cx.wish,bG]
 obtain⟨dx,hi⟩:=kp.ins
 obtain⟨xs,h1,h2⟩:=kp.hr
 refine⟨_,rfl,a,_,_,_,_,rfl,hi,T.cl_Keeper,T.n_Keeper_rest,rfl,_,xs,rfl,.inl ⟨aU.of h1,fun l hl=>?_⟩⟩
 have z:=ap hl (.tup xs)
 exact k _ _ z ⟨l,xs,rfl,bt.of ai,h2.mono fun _ _ q=>q.mono (aN.same z)⟩
theorem pD (T:d8 K mg t):bo P w K mg base dE 6 t.a_Q16 t.d_Q16 ["_law_keeper"] (lB K t.c_Keeper):=by
 refine T.F_Q16.ok jT (fun vs H Q E h=>?_) (fun cdv A outer s H vs Q E hr h=>?_)
 ·obtain⟨_,_,_,_,_,rfl,_⟩:=h;rfl
 obtain⟨a,lk,lr,ld,s,rfl,kp,o,k⟩:=h
 refine db.ok (ag (cE 1 jT.nd (ck ah))
   (ag (cE 2 jT.nd (d0 (qv 0) T.cl_Keeper T.M_Keeper_left (FT T) (hr.mono (by decide)) T.b_Q19 .nil fm))
   (ag (cE 3 jT.nd (d0 (qv 0) T.cl_Keeper T.M_Keeper_works (zW T) (hr.mono (by decide)) T.b_Q10 .nil fm))
   (ag (cG PassesOwn.never rfl (dg rfl T.z_range (ae (aQ aO (by rfl) T.z_len boot_len (ae (qv 3) ah af)) ah aR)) (aH (i:=4) jT.nd rfl (by first | exact Or.inl rfl | exact Or.inr rfl))
   (ao (cM (bj jm (cf aA (cf aA (qv 2) (qv 4)) aj) aj (bi _)) (ao (cD (fO PySem.F.plainAttrs_list PySem.F.slot_list_append PySem.F.type_list_append bU (qv 1) (ae (cj (ae (d0 (qv 0) T.cl_Keeper T.M_Keeper_now (pC T) (hr.mono (by decide)) T.b_Q22 .nil fm) (ae (cf aA (cf aA (qv 3) (qv 4)) aj) (ae (cf aA (qv 2) (qv 4)) ah aD) aD) aR)) ah dY)))) bH)))
   (ag (cE 5 jT.nd (bK pV (by rfl) T.z_list boot_list (ae (cO (DD T) hr T.m_Q9 T.F_Q9.kp T.b_Q9 (ae (bK bn (by rfl) T.z_tuple boot_tuple (ae (qv 1) ah af)) ah aR)) ah aR)))
   (ao (aI (lS uh (aJ sK (qv 5) (aJ Cj (ck (ae (cj (ae aj (ae aj ah aT) aT)) ah dY)) (aJ i7 aj (aQ aO (by rfl) T.z_len boot_len (ae (qv 5) ah af))))) (kG (d0 (qv 0) T.cl_Keeper T.M_Keeper_now (pC T) (hr.mono (by decide)) T.b_Q22 .nil fm)) ur)))))))) ?_
 extract_lets +lift
 try dsimp -zeta -zetaDelta only [Cx.nox,Cx.wish,bG]
 have olen:=o.len
 have ofew:=o.few
 have ot:=o.t24
 refine⟨(by show 0≤sizeLine;exact Nat.zero_le _),fun l1 hl1=>?_⟩
 have z1:=ap hl1 (.lst [])
 have e1:aG H l1 (.lst []) l1=some (.lst []):=ai
 generalize aG H l1 (.lst [])=H1 at z1 e1 ⊢
 have kp1:=kp.same z1
 obtain⟨dx1,hi1⟩:=kp1.ins
 refine⟨_,rfl,a,_,_,rfl,hi1,rfl,a,lk,lr,ld,s,rfl,kp1,fun vl H2 z2 rl=>?_⟩
 obtain⟨pl,xl,rfl,hpl,all_⟩:=rl
 have kp2:=kp1.same z2
 obtain⟨dx2,hi2⟩:=kp2.ins
 refine⟨_,rfl,a,_,_,rfl,hi2,rfl,a,lk,lr,ld,s,rfl,kp2,fun vk H3 z3 rk=>?_⟩
 obtain⟨pk,xk,rfl,hpk,alk⟩:=rk
 have t3:=aN.same (K:=K) z3
 have lxl:=all_.len
 have lxk:=alk.len
 have hpl3:=t3 _ _ hpl
 have all3:=all_.mono fun _ _ q=>q.mono t3
 have z13:=(z1.trans z2).trans z3
 have e3:=z3 _ _ (z2 _ _ e1)
 clear all_ hpl z2 z3 e1 kp2 hi2 kp1 hi1 t3
 let Iv1:Nat->L2.St->Hp->Prop:=fun i σ H'=>∃ (x4:Option V) (zs:List V),σ=[some (.ref a),some (.ref l1),some (.ref pl),some (.ref pk),x4,none]/\aB H H'/\aN K H3 H'/\H' l1=some (.lst zs)/\cn (AS K H') zs (iA s i)
 refine⟨_,rfl,pk,_,rfl,.inr hpk,_,rfl,by omega,by omega,eT (lo:=0) (n:=((xk.length:Nat):Int).toNat) Iv1 ⟨none,[],rfl,z13,aN.same (aB.refl _),e3,.nil⟩ ?_ ?_⟩
 ·rintro i σ HA hi ⟨x4,zs,rfl,sA,tA,eA,alA⟩
  rw [Int.zero_add]
  obtain⟨xr,hxr⟩:∃ x,xl[i]?=some x:=⟨_,List.getElem?_eq_getElem (by omega)⟩
  obtain⟨r,hr_,rvr⟩:=all3.at hxr
  obtain⟨xw,hxw⟩:∃ x,xk[i]?=some x:=⟨_,List.getElem?_eq_getElem (by omega)⟩
  obtain⟨w,hw_,pw,aw,rfl,hpw,rvw⟩:=alk.at hxw
  have rA:=rvr.mono tA
  obtain⟨pr,rfl,hpr⟩:=id rA
  have er:s.rs.getD i (0,1)=r:=av (0,1) hr_
  have ew:s.kn.getD i bC=w:=av bC hw_
  have am:=o.am r (List.mem_of_getElem? hr_)
  have top:=GD am.1.red
  refine⟨_,rfl,_,rfl,pl,_,_,_,rfl,rfl,tA _ _ hpl3,bh hxr,pr,_,_,_,rfl,rfl,hpr,rfl,_,_,rfl,rfl,_,rfl,?_⟩
  by_cases c:r=(0,1)
  ·refine cT (by rw [c];decide) ?_
   exact⟨_,zs,rfl,sA,tA,eA,by rw [wZ (by rw [er];exact c)];exact alA⟩
  refine d7 (by have:=am.2;have:r.1≠0:=fun z=>c (top.mp z);omega) ?_
  have kpA:=kp.same sA
  obtain⟨dxA,hiA⟩:=kpA.ins
  refine⟨_,rfl,.inl ⟨rfl,_,aU.of eA⟩,_,rfl,a,_,_,rfl,hiA,rfl,a,lk,lr,ld,s,rfl,kpA,_,rfl,_,rfl,pk,_,_,_,rfl,rfl,tA _ _ hpk,bh hxw,pw,_,_,_,rfl,rfl,tA _ _ hpw,rfl,_,rfl,_,rfl,pl,_,_,_,rfl,rfl,tA _ _ hpl3,bh hxr,JF,fun pn hpn=>?_⟩
  have zn:=ap hpn (.tup [.int (s.tn:Nat),.int (w.2.1:Nat),.ref pr])
  have hn:aG HA pn (.tup [.int (s.tn:Nat),.int (w.2.1:Nat),.ref pr]) pn=some (.tup [.int (s.tn:Nat),.int (w.2.1:Nat),.ref pr]):=ai
  generalize aG HA pn (.tup [.int (s.tn:Nat),.int (w.2.1:Nat),.ref pr])=HB at zn hn ⊢
  have eB:=zn _ _ eA
  have lz:=alA.len
  have lw:=vi s i
  refine⟨l1,_,_,rfl,rfl,eB,aY (by omega),?_⟩
  have tB:=aN.same (K:=K) zn
  have tC:=aN.up (K:=K) eB (zs++[.ref pn])
  have tBC:=tB.trans tC
  refine⟨_,_,rfl,fun b o e=>?_,tA.trans tBC,ai,?_⟩
  ·rw [az (aK e hl1)]
   exact zn _ _ (sA _ _ e)
  ·rw [vh (by rw [er];exact c),er,ew]
   exact (alA.mono fun _ _ q=>q.mono tBC).snoc ⟨pn,.ref pr,rfl,tC _ _ (bt.of hn),rA.mono tBC⟩
 ·rintro σ HA ⟨x4,zs,rfl,sA,tA,eA,alA⟩
  have en:((xk.length:Nat):Int).toNat=s.rs.length:=by omega
  rw [en,vj] at alA
  have wok:=p6 o
  have wl:(bc s.kn s.rs s.tn).length≤20:=by
   have:=gh s.rs
   rw [cX];omega
  have lz:=alA.len
  refine⟨_,rfl,l1,zs,rfl,.inl ⟨aU.of eA,fun pt hpt=>?_⟩⟩
  have zt:=ap hpt (.tup zs)
  have ht:aG HA pt (.tup zs) pt=some (.tup zs):=ai
  generalize aG HA pt (.tup zs)=HB at zt ht ⊢
  refine⟨.ref pt,_,rfl,⟨pt,zs,rfl,bt.of ht,alA.mono fun _ _ q=>q.mono (aN.same zt)⟩,by omega,wok,fun p xs lys HC zC hp al L=>?_⟩
  have PS:=Fc o L
  have ln:(aP (bc s.kn s.rs s.tn) lys).length=24:=by
   unfold aP
   rw [ib]
   rfl
  have lx:=al.len
  refine⟨p,xs,rfl,.inr hp,fun l2 hl2=>?_⟩
  have z2:=ap hl2 (.lst xs)
  have e2:aG HC l2 (.lst xs) l2=some (.lst xs):=ai
  have al2:=al.mono fun _ _ q=>q.mono (aN.same z2)
  generalize aG HC l2 (.lst xs)=HD at z2 e2 al2 ⊢
  refine⟨_,rfl,oo,fun pz hpz=>⟨Hd,fun lz_ hlz=>?_⟩⟩
  have z3:=ap hpz (.tup [.int 0,.int 1])
  have z4:=ap hlz (.lst [.ref pz])
  have e4:aG (aG HD pz (.tup [.int 0,.int 1])) lz_ (.lst [.ref pz]) lz_=some (.lst [.ref pz]):=ai
  have z34:=z3.trans z4
  generalize aG (aG HD pz (.tup [.int 0,.int 1])) lz_ (.lst [.ref pz])=HE at z34 e4 ⊢
  refine⟨_,rfl,l2,_,rfl,.inl (aU.of (z34 _ _ e2)),_,_,rfl,rfl,lz_,_,0,rfl,(show V.int (24 - ((xs.length:Nat):Int))=V.int ((0:Nat):Int) by congr 1;omega),e4,(by simp),(by simp),fun l3 hl3=>?_⟩
  have z5:=ap hl3 (.lst (List.replicate 0 [V.ref pz]).flatten)
  have e5:aG HE l3 (.lst (List.replicate 0 [V.ref pz]).flatten) l3=some (.lst []):=ai
  generalize aG HE l3 (.lst (List.replicate 0 [V.ref pz]).flatten)=HF at z5 e5 ⊢
  have z35:=z34.trans z5
  refine⟨l2,l3,_,_,rfl,rfl,z35 _ _ e2,e5,(by show xs.length+0≤_;exact Nat.le_trans (show _≤24 by omega) (by decide)),fun l4 hl4=>?_⟩
  have z6:=ap hl4 (.lst (xs++[]))
  have e6:aG HF l4 (.lst (xs++[])) l4=some (.lst (xs++[])):=ai
  generalize aG HF l4 (.lst (xs++[]))=HG at z6 e6 ⊢
  rw [List.append_nil] at e6
  have zAG:=(((zt.trans zC).trans z2).trans z35).trans z6
  have kpG:=(kp.same sA).same zAG
  obtain⟨dxG,hiG⟩:=kpG.ins
  refine⟨_,rfl,a,_,_,rfl,hiG,rfl,a,lk,lr,ld,s,rfl,kpG,_,rfl,l4,xs,rfl,aU.of e6,fun l5 hl5=>?_⟩
  have z7:=ap hl5 (.lst (gT xs (some (s.tn:Nat)) none))
  have e7:aG HG l5 (.lst (gT xs (some ((s.tn:Nat):Int)) none)) l5=some (.lst (xs.drop s.tn)):=by rw [ai,rg (by omega)]
  have sG:=sA.trans zAG
  refine k l5 (xs.drop s.tn) _ _ (sG.trans z7) (nI sG hl5) e7 ?_ PS
  exact (al2.mono fun _ _ q=>q.mono (aN.same ((z35.trans z6).trans z7))).drop s.tn
theorem FE (T:d8 K mg t):bo P w K mg base dE 8 t.a_Q38 t.d_Q38 ["_law_tape", "_law_keeper"] (qo K t.c_Keeper):=by
 refine T.F_Q38.ok jR (fun vs H Q E h=>?_) (fun cdv A outer s H vs Q E hr h=>?_)
 ·obtain⟨_,_,_,_,_,_,_,rfl,_⟩:=h;rfl
 obtain⟨t₁,l,a,lk,lr,ld,s,rfl,tb,kp,o,ht,nt,k⟩:=h
 refine db.ok (ag (cE 2 jR.nd (cO (pD T) hr T.m_Q16 T.F_Q16.kp T.b_Q16 (ae (qv 1) ah af)))
   (ag (EV (cM (qE (oY (bj j7 (aQ aO (by rfl) T.z_len boot_len (ae (d0 (qv 1) T.cl_Keeper T.M_Keeper_works (zW T) (hr.mono (by decide)) T.b_Q10 .nil fm) ah aR)) aj (bi _)) (oX (bj nH (cO (lV T) hr T.m_Q35 T.F_Q35.kp T.b_Q35 (ae (qv 0) (ae aj ah aT) af)) aj (bi _))))) (ag (cE 3 jR.nd (aQ (wD rfl) (by rfl) T.z_min boot_min (ae aj (ae (aJ dm (d0 (qv 1) T.cl_Keeper T.M_Keeper_now (pC T) (hr.mono (by decide)) T.b_Q22 .nil fm) (cO (lV T) hr T.m_Q35 T.F_Q35.kp T.b_Q35 (ae (qv 0) (ae (cf b8 (ck (ae aj (ae aj (ae aj (ae aj ah aT) aT) aT) aT)) (cO (lV T) hr T.m_Q35 T.F_Q35.kp T.b_Q35 (ae (qv 0) (ae aj ah aT) af))) ah aD) af))) ah bv) aT)))
   (ag (cD (BQ (qv 1) T.cl_Keeper T.M_Keeper_come (FU T) (hr.mono (by decide)) T.b_Q18 .nil fm (ae (qv 3) (ae (cO (zR T) hr T.m_Q36 T.F_Q36.kp T.b_Q36 (ae (aJ dm aj (cO (lV T) hr T.m_Q35 T.F_Q35.kp T.b_Q35 (ae (qv 0) (ae aj ah aT) af))) (ae (cf b8 (ck (ae aj (ae aj (ae aj (ae aj (ae aj (ae aj ah aT) aT) aT) aT) aT) aT)) (cO (lV T) hr T.m_Q35 T.F_Q35.kp T.b_Q35 (ae (qv 0) (ae aj ah aT) af))) ah aD) bv)) ah aR) af)))
   (ag (cE 4 jR.nd (cO (pD T) hr T.m_Q16 T.F_Q16.kp T.b_Q16 (ae (qv 1) ah af)))
   (ag (ig (i:=5) (N':=["_law_k", "_law_later", "_law_before"]) (src:=[none,some 4,some 2]) jR.nd rfl (by first | exact Or.inl rfl | exact Or.inr rfl) rfl (by exact (dg rfl T.z_range (ae (aQ aO (by rfl) T.z_len boot_len (ae (qv 4) ah af)) ah aR))) (fun _ _ _ _ _=>(by exact (by exact aH (i:=0) (by show List.Nodup (["_law_k", "_law_later", "_law_before"]:List Str);decide +kernel) (by exact rfl) (by first | exact Or.inl rfl | exact Or.inr rfl)))) (fun _ _ _ _ _=>(dQ (cU (by exact (kJ (zU T) (by exact hr.mono (by decide)) (by exact rfl) T.m_Q15 T.F_Q15.kp T.b_Q15 (by exact .nil) (by exact fm) (ae (by exact (bL (cB (K:=K) (by exact rfl)) (by exact (qv 1)) (by exact (qv 0)) (by exact fun _ _=>rfl))) (ae (by exact (bL (cB (K:=K) (by exact rfl)) (by exact (qv 2)) (by exact (qv 0)) (by exact fun _ _=>rfl))) ah aD) aD)))))) (fun _ _ _ _ _=>(by exact (by exact (qv 0)))) (by exact⟨rfl,rfl,rfl,rfl,⟨rfl,rfl,rfl,rfl,trivial⟩⟩) rfl (by decide +kernel) rfl (by decide +kernel) (by exact bB rfl ⟨rfl,⟨rfl,trivial⟩⟩))
   (ao (aI (jW (cO (zS T) hr T.m_Q27 T.F_Q27.kp T.b_Q27 (ae (qv 4) ah af)) (jV (eQ (sI hr) (qv 5) (ck ah) (bi _)))))))))) bH))
   (ag (cE 6 jR.nd (d0 (qv 1) T.cl_Keeper T.M_Keeper_go (FL T) (hr.mono (by decide)) T.b_Q28 .nil fm))
   (ag (cM (bj (pA hr) (cO (FN T) hr T.m_Q26 T.F_Q26.kp T.b_Q26 (ae (bZ (N':=["_law_j", "_law_amount"]) (src:=[none,none]) rfl (by exact (eZ (qv 6))) (fun _ _ _ _ _=>(by exact (by exact ii (K:=K) (n:=2) (by exact rfl) (by exact rfl) (by exact bI (by exact aH (i:=0) (by show List.Nodup (["_law_j", "_law_amount"]:List Str);decide +kernel) (by exact rfl) (by first | exact Or.inl rfl | exact Or.inr rfl)) (by exact bI (by exact aH (i:=1) (by show List.Nodup (["_law_j", "_law_amount"]:List Str);decide +kernel) (by exact rfl) (by first | exact Or.inl rfl | exact Or.inr rfl)) eP))))) (fun _ _ _ _ _=>dk) (fun _ _ _ _ _=>(by exact (by exact (qv 1)))) (by exact trivial) rfl (by decide +kernel) rfl (by decide +kernel) (by exact bB rfl trivial)) ah eO)) (cf b8 (qv 2) aj) (bi _)) (ao (aI lT)) bH)
   (ao (aI (eQ (sI hr) (cO (pD T) hr T.m_Q16 T.F_Q16.kp T.b_Q16 (ae (qv 1) ah af)) (lS uh (qv 2) (kG aj) ur) (bi _)))))))) ?_
 extract_lets +lift
 try dsimp -zeta -zetaDelta only [Cx.nox,Cx.wish,bG]
 have olen:=o.len
 have ofew:=o.few
 refine⟨_,rfl,a,lk,lr,ld,s,rfl,kp,o,fun lb xb rb H1 s1 nb hb alb PB=>?_⟩
 have kp1:=kp.same s1
 have tb1:=tb.same s1
 have lxb:=alb.len
 have lrb:=PB.2.1
 have nbS:lb∉[t₁,a,lk,lr,ld]:=fun hx=>by
  rcases List.mem_cons.mp hx with z | z
  ·obtain⟨ys,e⟩:=tb.lst;rw [← z,nb] at e;cases e
  ·obtain⟨o',e⟩:=kp.cls _ z;rw [nb] at e;cases e
 have kT:∀ {HX HY:Hp} {sx:dW},kg K t.c_Keeper HX a lk lr ld sx->iy [t₁] HX HY->aN K HX HY->kg K t.c_Keeper HY a lk lr ld sx:=fun h z tt=>h.keep (fun b hb o e=>z b o (fun m=>nt (by rw [← List.mem_singleton.mp m];exact hb)) e) tt
 have sub1:∀ b∈[t₁],b∈[t₁,a,lk,lr,ld]:=fun b hb=>by rw [List.mem_singleton.mp hb];exact List.mem_cons_self
 obtain⟨dx1,hi1⟩:=kp1.ins
 have g01:iy [t₁,a,lk,lr,ld] H H1:=iy.of s1
 clear tb kp s1 nb
 refine⟨fun σ H'=>σ=[some (.ref t₁),some (.ref a),some (.ref lb),none,none,none,none]/\iy [t₁] H1 H'/\d9 H' t₁ l,?_,?_⟩
 ·refine⟨_,rfl,a,_,_,rfl,hi1,rfl,a,lk,lr,ld,s,rfl,kp1,fun vw H2 s2 rw_=>?_⟩
  obtain⟨pw,xw,rfl,hpw,alw⟩:=rw_
  have lw:=alw.len
  refine⟨pw,_,rfl,.inr hpw,_,_,rfl,rfl,_,rfl,?_⟩
  have tb2:=tb1.same s2
  by_cases c20:xw.length < 20
  rotate_left
  ·refine cT (by omega) (fj ?_)
   exact⟨rfl,iy.of s2,tb2⟩
  refine d7 (by omega) ?_
  have kp2:=kp1.same s2
  refine⟨_,rfl,t₁,l,2,rfl,tb2,by omega,by omega,fun r1 x1 a1 b1 tb3=>?_⟩
  have z3:=iy.tp (H:=H2) (t:=t₁) (.lst x1)
  have t3:=fI (K:=K) tb2 z3 tb3
  have kp3:=kT kp2 z3 t3
  have g3:=(iy.of s2).trans z3
  have u3:=(aN.same (K:=K) s2).trans t3
  generalize aG H2 t₁ (.lst x1)=H3 at tb3 kp3 g3 u3 ⊢
  refine⟨rfl,_,rfl,?_⟩
  by_cases c0:r1=0
  rotate_left
  ·refine cT (fun z=>by injection z with z;exact c0 z) ?_
   exact⟨rfl,g3,tb3⟩
  refine d7 (by rw [c0]) ?_
  clear z3 t3 kp2 tb2 s2 hpw alw a1 b1 c0
  obtain⟨dx3,hi3⟩:=kp3.ins
  refine⟨_,rfl,a,_,_,rfl,hi3,rfl,a,lk,lr,ld,s,rfl,kp3,_,rfl,MB,fun pf hpf=>?_⟩
  have nf:pf≠t₁:=fun z=>by obtain⟨ys,e⟩:=tb3.lst;rw [← z,hpf] at e;cases e
  have s4:=ap hpf (.lst [.int 1,.int 3,.int 6,.int 20])
  have e4:aG H3 pf (.lst [.int 1,.int 3,.int 6,.int 20]) pf=some (.lst [.int 1,.int 3,.int 6,.int 20]):=ai
  have tb4:=tb3.same s4
  have kp4:=kp3.same s4
  have g4:=g3.trans (iy.of s4)
  have u4:=u3.trans (aN.same s4)
  generalize aG H3 pf (.lst [.int 1,.int 3,.int 6,.int 20])=H4 at e4 tb4 kp4 g4 u4 ⊢
  refine⟨_,rfl,t₁,l,4,rfl,tb4,by omega,by omega,fun r5 x5 a5 b5 tb5=>?_⟩
  have z5:=iy.tp (H:=H4) (t:=t₁) (.lst x5)
  have t5:=fI (K:=K) tb4 z5 tb5
  have kp5:=kT kp4 z5 t5
  have g5:=g4.trans z5
  have u5:=u4.trans t5
  have e5:aG H4 t₁ (.lst x5) pf=some (.lst [.int 1,.int 3,.int 6,.int 20]):=by rw [az nf];exact e4
  generalize aG H4 t₁ (.lst x5)=H5 at tb5 kp5 g5 u5 e5 ⊢
  clear z5 t5 tb4 kp4 g4 u4 e4 tb3 kp3 g3 u3 s4 hpf
  obtain⟨f,hf,f0,f20⟩:∃ f:Int,rF [V.int 1,.int 3,.int 6,.int 20] r5=some (.int f)/\0 < f/\f≤20:=by
   rcases (show r5=0∨r5=1∨r5=2∨r5=3 by omega) with rfl | rfl | rfl | rfl
   ·exact⟨1,rfl,by decide,by decide⟩
   ·exact⟨3,rfl,by decide,by decide⟩
   ·exact⟨6,rfl,by decide,by decide⟩
   ·exact⟨20,rfl,by decide,by decide⟩
  refine⟨pf,_,_,_,rfl,rfl,aU.of e5,hf,t₁,l,f,rfl,tb5,f0,by omega,fun r6 x6 a6 b6 tb6=>?_⟩
  have z6:=iy.tp (H:=H5) (t:=t₁) (.lst x6)
  have t6:=fI (K:=K) tb5 z6 tb6
  have kp6:=kT kp5 z6 t6
  have g6:=g5.trans z6
  have u6:=u5.trans t6
  generalize aG H5 t₁ (.lst x6)=H6 at tb6 kp6 g6 u6 ⊢
  clear z6 t6 tb5 kp5 g5 u5 e5
  refine⟨_,_,rfl,rfl,_,_,rfl,?_⟩
  obtain⟨m,em,m1,m2⟩:∃ m:Nat,(if ((s.tn:Nat):Int)+r6 < 23 then ((s.tn:Nat):Int)+r6 else 23)=(m:Int)/\s.tn≤m/\m≤23:=by
   by_cases c:((s.tn:Nat):Int)+r6 < 23
   ·rw [if_pos c]
    exact⟨(((s.tn:Nat):Int)+r6).toNat,by omega,by omega,by omega⟩
   ·rw [if_neg c]
    exact⟨23,rfl,by omega,by omega⟩
  rw [em]
  obtain⟨dx6,hi6⟩:=kp6.ins
  refine⟨_,rfl,a,_,_,rfl,hi6,rfl,_,rfl,_,rfl,t₁,l,12,rfl,tb6,by omega,by omega,fun r7 x7 a7 b7 tb7=>?_⟩
  have z7:=iy.tp (H:=H6) (t:=t₁) (.lst x7)
  have t7:=fI (K:=K) tb6 z7 tb7
  have kp7:=kT kp6 z7 t7
  have g7:=g6.trans z7
  have u7:=u6.trans t7
  generalize aG H6 t₁ (.lst x7)=H7 at tb7 kp7 g7 u7 ⊢
  clear z7 t7 tb6 kp6 g6 u6 hi6
  refine⟨_,_,rfl,rfl,MA,fun pg hpg=>?_⟩
  have ng:pg≠t₁:=fun z=>by obtain⟨ys,e⟩:=tb7.lst;rw [← z,hpg] at e;cases e
  have s8:=ap hpg (.lst [.int 1,.int 1,.int 2,.int 3,.int 4,.int 7])
  have e8:aG H7 pg (.lst [.int 1,.int 1,.int 2,.int 3,.int 4,.int 7]) pg=some (.lst [.int 1,.int 1,.int 2,.int 3,.int 4,.int 7]):=ai
  have tb8:=tb7.same s8
  have kp8:=kp7.same s8
  have g8:=g7.trans (iy.of s8)
  have u8:=u7.trans (aN.same s8)
  generalize aG H7 pg (.lst [.int 1,.int 1,.int 2,.int 3,.int 4,.int 7])=H8 at e8 tb8 kp8 g8 u8 ⊢
  clear tb7 kp7 g7 u7 s8 hpg
  refine⟨_,rfl,t₁,l,6,rfl,tb8,by omega,by omega,fun r9 x9 a9 b9 tb9=>?_⟩
  have z9:=iy.tp (H:=H8) (t:=t₁) (.lst x9)
  have t9:=fI (K:=K) tb8 z9 tb9
  have kp9:=kT kp8 z9 t9
  have g9:=g8.trans z9
  have u9:=u8.trans t9
  have e9:aG H8 t₁ (.lst x9) pg=some (.lst [.int 1,.int 1,.int 2,.int 3,.int 4,.int 7]):=by rw [az ng];exact e8
  generalize aG H8 t₁ (.lst x9)=H9 at tb9 kp9 g9 u9 e9 ⊢
  clear z9 t9 tb8 kp8 g8 u8 e8
  obtain⟨q,hq,q0,q7,q84⟩:∃ q:Int,rF [V.int 1,.int 1,.int 2,.int 3,.int 4,.int 7] r9=some (.int q)/\1≤q/\q≤7/\q∣84:=by
   rcases (show r9=0∨r9=1∨r9=2∨r9=3∨r9=4∨r9=5 by omega) with rfl | rfl | rfl | rfl | rfl | rfl
   ·exact⟨1,rfl,by decide,by decide,by decide⟩
   ·exact⟨1,rfl,by decide,by decide,by decide⟩
   ·exact⟨2,rfl,by decide,by decide,by decide⟩
   ·exact⟨3,rfl,by decide,by decide,by decide⟩
   ·exact⟨4,rfl,by decide,by decide,by decide⟩
   ·exact⟨7,rfl,by decide,by decide,by decide⟩
  have bq:=CB (a:=1+r7) (b:=q) (by omega) (by omega) q0 q84
  have pos:=Ab (a:=1+r7) (b:=q) (by omega) q0
  refine⟨pg,_,_,_,rfl,rfl,aU.of e9,hq,1+r7,q,rfl,by omega,Nat.lt_of_le_of_lt (show q.natAbs≤7 by omega) (by decide +kernel),nR K fun pm HA sA rA=>?_⟩
  generalize eG (1+r7) q=r at bq pos rA
  have kpA:=kp9.same sA
  have cb:mD s (.int (m:Nat)) (dR r)=true:=by rw [C0 (by omega) (by omega),Da bq.red pos,decide_eq_true (by omega)];rfl
  refine⟨a,lk,lr,ld,s,.int (m:Nat),.ref pm,.int (m:Nat),dR r,rfl,kpA,by omega,by omega,.int _,rA.deep,cb,fun l' r' HB y1 y2 ksB kpB=>?_⟩
  obtain rfl:m=l':=by injection y1 with y1;omega
  obtain rfl:r=r':=Gy y2
  have oB:=CZ o cb rfl rfl bq
  have zB:=(GK.stl ksB).sub (S':=[t₁,a,lk,lr,ld]) fun b hb=>List.mem_cons_of_mem _ hb
  have gB:=((g9.trans (iy.of sA)).sub sub1).trans zB
  have uB:=(u9.trans (aN.same sA)).trans (kpA.tst ksB)
  have hbB:=gB _ _ nbS hb
  clear ksB kpA tb9 kp9 g9 u9 sA rA e9 y1 y2 hq hf em zB
  refine⟨_,rfl,a,lk,lr,ld,_,rfl,kpB,oB,fun lc xc rc HC sC nc hc alc PC=>?_⟩
  have lxc:=alc.len
  have lrc:=PC.2.1
  have etc:(fg s m r).tn=s.tn:=rfl
  rw [etc] at lrc
  have hbC:=sC _ _ hbB
  have albC:=alb.mono fun _ _ q=>q.mono (uB.trans (aN.same sC))
  refine⟨_,rfl,lc,_,rfl,.inl (aU.of hc),_,rfl,by omega,by omega,fun D hD=>cL (tX (lo:=0)) (fun _=>false) (fun i=>V.int (i:Nat)) hD (by omega) (fun i x H' hi s' hx R E kR kE=>?_) fun HD sD hD1=>?_⟩
  ·obtain rfl:=hx
   have ic:i < xc.length:=by omega
   obtain⟨y1,h1⟩:∃ x,xc[i]?=some x:=⟨_,List.getElem?_eq_getElem ic⟩
   obtain⟨y2,h2⟩:∃ x,xb[i]?=some x:=⟨_,List.getElem?_eq_getElem (by omega)⟩
   obtain⟨w1,q1,v1⟩:=alc.at h1
   obtain⟨w2,q2,v2⟩:=albC.at h2
   have f:=PB.up o PC ((kQ bq.pos).mpr (by omega)) (k:=i) (by omega)
   rw [av (0,1) q1,av (0,1) q2] at f
   have t':=aN.same (K:=K) s'
   rw [Int.zero_add]
   refine⟨iz.set rfl,_,rfl,_,rfl,lc,_,_,_,rfl,rfl,s'.seq (aU.of hc),bh h1,_,rfl,_,rfl,lb,_,_,_,rfl,rfl,s'.seq (aU.of hbC),bh h2,y1,y2,w1,w2,3640,3640,rfl,v1.mono t',v2.mono t',C5 (PC.1 _ (List.mem_of_getElem? q1)),C5 (PB.1 _ (List.mem_of_getElem? q2)),by decide,?_⟩
   rw [f]
   exact⟨_,rfl,fj (kE rfl _ (aB.refl _))⟩
  replace hD1:HD D=some (.lst []):=by rw [hD1];simp
  refine⟨_,rfl,lc,xc,rc,rfl,aU.of (sD _ _ hc),alc.mono fun _ _ q=>q.mono (aN.same sD),PC.1,by omega,fun k hk=>PC.falls hk,fun HE sE=>?_⟩
  refine⟨true,rfl,_,rfl,(by show 0≤sizeLine;exact Nat.zero_le _),fun q0' hq0=>?_⟩
  have sF:=ap hq0 (.lst [])
  refine⟨.list [],.list [],.lst (aU.of (sF _ _ (sE _ _ hD1))) .nil,.lst (aU.of ai) .nil,rfl,rfl,(by decide),?_⟩
  have sCF:=((sC.trans sD).trans sE).trans sF
  exact k _ _ ((g01.trans gB).trans (iy.of sCF)) (kpB.same sCF) oB
 ·rintro σ H2 ⟨rfl,g2,tb2⟩
  have t2:=fI (K:=K) tb1 g2 tb2
  have kp2:=kT kp1 g2 t2
  obtain⟨dx2,hi2⟩:=kp2.ins
  refine⟨_,rfl,a,_,_,rfl,hi2,rfl,a,lk,lr,ld,s,rfl,kp2,o,ht,fun q0 vq H3 G ks3 kp3 tq=>?_⟩
  obtain⟨pq,xq,rfl,hpq,alq⟩:=tq
  have z3:=(GK.stl ks3).sub (S':=[t₁,a,lk,lr,ld]) fun b hb=>List.mem_cons_of_mem _ hb
  have g3:=(g2.sub sub1).trans z3
  have u3:=t2.trans (kp2.tst ks3)
  have hb3:=g3 _ _ nbS hb
  have few:=G.few
  have lq:=alq.len
  have lr_:(bY (aF s.rs) q0).length=q0.length:=by unfold bY;rw [List.length_map]
  refine⟨_,rfl,pq,rfl,⟨_,hpq⟩,fun D hD=>wy (K:=K) (P:=RV K) (ds:=bY (aF s.rs) q0) (f:=fun c:Pc=>c.2) (fun _ _ _ _ t p=>p.mono t) hD hpq lq (by omega) (fun j z c H' hz hc s' R' E' kR'=>?_) fun H4 ys4 s4 hD4 al4=>?_⟩
  ·obtain⟨c',hc',pc,xa,rfl,hSc,rx⟩:=alq.at hz
   rw [hc] at hc'
   cases hc'
   have t':=aN.same (K:=K) s'
   refine⟨pc,_,rfl,t' _ _ hSc,rfl,_,_,rfl,_,_,rfl,rfl,(iz.set rfl).set' rfl,?_⟩
   exact⟨_,rfl,kR' _ _ (aB.refl _) (rx.mono t')⟩
  have am:∀ r∈(bY (aF s.rs) q0).map fun c:Pc=>c.2,eM r:=fun r hr=>by
   obtain⟨c,hc,rfl⟩:=List.mem_map.mp hr
   exact (G.pc c hc).2
  refine⟨D,ys4,(bY (aF s.rs) q0).map fun c:Pc=>c.2,rfl,aU.of hD4,al4,fun r hr=>(am r hr).bq.mono (D':=DQ) (by decide) (by decide),by rw [List.length_map];omega,fun v5 H5 s5 r5=>?_⟩
  have hb5:=s5 _ _ (s4 _ _ hb3)
  have s35:=s4.trans s5
  have alb5:=alb.mono fun _ _ q=>q.mono (u3.trans (aN.same s35))
  obtain⟨x0,hx0⟩:∃ x,xb[0]?=some x:=⟨_,List.getElem?_eq_getElem (by omega)⟩
  obtain⟨b0,hb0,rv0⟩:=alb5.at hx0
  have eqs:eW ((bY (aF s.rs) q0).map fun c=>c.2)=b0:=by
   rw [PB.sum o ht G]
   exact av (0,1) hb0
  refine⟨_,rfl,lb,_,_,_,rfl,rfl,aU.of hb5,bh (j:=0) hx0,dR b0,dR b0,?_,rv0.deep,sZ _,sZ _,ju _,_,rfl,?_⟩
  ·rw [← eqs];exact r5.deep
  rw [mz]
  refine fj ?_
  have kp5:=kp3.same s35
  refine⟨_,rfl,a,lk,lr,ld,_,rfl,kp5,G.ok,fun lc xc rc H6 s6 nc hc alc PC=>?_⟩
  have hb6:=s6 _ _ hb5
  refine⟨_,rfl,1,rfl,lb,xb,rfl,aU.of hb6,fun l7 hl7=>?_⟩
  have s7:=ap hl7 (.lst (gT xb (some 1) none))
  have e7:aG H6 l7 (.lst (gT xb (some ((1:Nat):Int)) none)) l7=some (.lst (xb.drop 1)):=by rw [ai,rg (by omega)]
  obtain⟨er,_⟩:=PB.go o ht G PC
  have alD:=((alb5.mono fun _ _ q=>q.mono (aN.same (s6.trans s7))).drop 1)
  rw [← er] at alD
  refine⟨dL rc,dL rc,.lst (aU.of (s7 _ _ hc)) ((alc.mono fun _ _ q=>q.mono (aN.same s7)).deep fun _ _ q=>q.deep),.lst (aU.of e7) (alD.deep fun _ _ q=>q.deep),IN _,IN _,Gw _,?_⟩
  rw [KH]
  have s37:=(s35.trans s6).trans s7
  exact k _ _ ((g01.trans g3).trans (iy.of s37)) (kp3.same s37) G.ok
theorem Fu (T:d8 K mg t):bo P w K mg base dE 9 t.a_Q51 t.d_Q51 ["_law_script"] (oG K):=by
 refine T.F_Q51.ok oN (fun vs H Q E h=>?_) (fun cdv A outer s H vs Q E hr h=>?_)
 ·obtain⟨_,_,rfl,_⟩:=h;rfl
 obtain⟨a₀,ns,rfl,hS,hl,k⟩:=h
 refine db.ok (ag (cE 1 oN.nd (y9 T.K_Keeper (FV T) (hr.mono (by decide)) rfl T.m_Keeper T.b_Q17 .nil fm))
   (ag (cG PassesOwn.never rfl (dg rfl T.z_range (ae aj ah aT)) (aH (i:=2) oN.nd rfl (by first | exact Or.inl rfl | exact Or.inr rfl))
   (ag (cE 3 oN.nd (ck (ae (cO (FO T) hr T.m_Q25 T.F_Q25.kp T.b_Q25 (ae (aJ dm (cO (FW T) hr T.m_Q14 T.F_Q14.kp T.b_Q14 (ae (qv 0) (ae (qv 2) ah af) af)) (aJ gN aj (qv 2))) (ae aj ah aT) bv)) (ae aj ah aT) aR)))
   (ao (cM (qE (oY (bj j7 (d0 (qv 1) T.cl_Keeper T.M_Keeper_now (pC T) (hr.mono (by decide)) T.b_Q22 .nil fm) aj (bi _)) (oX (fD (cU (cO (FE T) hr T.m_Q38 T.F_Q38.kp T.b_Q38 (ae (qv 3) (ae (qv 1) ah af) af))))))) (ao (aI lT)) bH))))
   (ao (aI (cO (zS T) hr T.m_Q27 T.F_Q27.kp T.b_Q27 (ae (cO (pD T) hr T.m_Q16 T.F_Q16.kp T.b_Q16 (ae (qv 1) ah af)) ah aR)))))) ?_
 extract_lets +lift
 try dsimp -zeta -zetaDelta only [Cx.nox,Cx.wish,bG]
 refine fun a dx ha hdx ndx=>⟨a,dx,rfl,ai,fun lk lr ld H1 f1 nk nr nd kp1=>⟨rfl,?_⟩⟩
 obtain⟨m1,fA⟩:=Ai ha hdx f1 nk nr nd
 clear f1 nk nr nd ha hdx ndx
 let Iv1:Nat->L2.St->Hp->Prop:=fun i σ H'=>∃ (x2 x3:Option V) (s:dW),σ=[some (.ref a₀),some (.ref a),x2,x3]/\aB H H'/\kg K t.c_Keeper H' a lk lr ld s/\kO s
 refine⟨30,rfl,by decide,by decide,eT (lo:=0) (n:=30) Iv1 ⟨none,none,_,rfl,m1,kp1,IQ⟩ ?_ ?_⟩
 ·rintro i σ HA hi ⟨x2,x3,s,rfl,sA,kpA,o⟩
  rw [Int.zero_add]
  refine⟨_,rfl,_,rfl,a₀,ns,i,rfl,sA.seq hS,fun z=>?_⟩
  refine⟨_,rfl,_,_,rfl,rfl,.inl ⟨by omega,by omega⟩,_,_,rfl,rfl,_,20,rfl,by decide,by decide,fun l nz HB sB hl0 hlB hln=>⟨oo,fun t₂ ht2=>?_⟩⟩
  have nl2:l≠t₂:=fun z=>by subst z;rw [hlB] at ht2;cases ht2
  have s5:=ap ht2 (.lst [.ref l,.int 0])
  have T2:d9 (aG HB t₂ (.lst [.ref l,.int 0])) t₂ l:=⟨nz,0,ai,s5 _ _ hlB,nl2,by omega,by omega⟩
  have kpB:=kpA.same sB
  have ft:H t₂=none:=nI (sA.trans sB) ht2
  have nt:t₂∉[a,lk,lr,ld]:=fun m=>by obtain⟨o',e⟩:=kpB.cls _ m;rw [ht2] at e;cases e
  have kpC:=kpB.same s5
  have sC:=(sA.trans sB).trans s5
  generalize aG HB t₂ (.lst [.ref l,.int 0])=HC at T2 kpC sC ⊢
  obtain⟨dxC,hiC⟩:=kpC.ins
  have ot:=o.t24
  refine⟨_,rfl,a,_,_,rfl,hiC,rfl,a,lk,lr,ld,s,rfl,kpC,_,_,rfl,rfl,_,rfl,?_⟩
  by_cases c:s.tn < 24
  ·refine d7 (by omega) ?_
   refine⟨_,rfl,_,rfl,t₂,l,a,lk,lr,ld,s,rfl,T2,kpC,o,c,nt,fun s' HD g kp' o'=>⟨_,rfl,fj ?_⟩⟩
   refine⟨_,_,s',rfl,fun b ob e=>g b ob (fun m=>?_) (sC b ob e),kp',o'⟩
   rcases List.mem_cons.mp m with z | z
   ·rw [z,ft] at e;cases e
   ·rw [fA _ z] at e;cases e
  ·refine cT (by omega) (fj ?_)
   exact⟨_,_,s,rfl,sC,kpC,o⟩
 ·rintro σ HA ⟨x2,x3,s,rfl,sA,kpA,o⟩
  refine⟨_,rfl,a,lk,lr,ld,s,rfl,kpA,o,fun l xs rs HB sB nl hl al PS=>?_⟩
  exact⟨l,xs,rs,rfl,aU.of hl,al,PS.1,(by have:=PS.2.1;omega),fun k hk=>PS.falls hk,fun HC sC=>k _⟩
end
set_option autoImplicit true in
set_option relaxedAutoImplicit true in
open PySem.W in
theorem all_mk {l:OpenLaw} {w:World} {K:Frag} {h:Heap} {mg:Str->Option Value} {fa:Addr} (X:K.In h) (G:h.Ns mainGlobals mg) (hfa:mg "law" = some (.ref fa))
  {c_Keeper:Addr} (p_Keeper:nsIn K mainGlobals "Keeper" = some (some (.ref c_Keeper))) (x1_Keeper:plainGet K c_Keeper Str.empty=true) (x2_Keeper:hasDictIn K c_Keeper=true) (x3_Keeper:plainOver K c_Keeper=true) (x4_Keeper:findIn K (.ref c_Keeper) "__setattr__" = some (some (.builtin "object.__setattr__"))) (x5_Keeper:makesIn K c_Keeper=true) (x6_Keeper:keepIn K (.ref c_Keeper)=true)
  (na_Keeper_turn:findIn K (.ref c_Keeper) "turn" = some none) (na_Keeper_known:findIn K (.ref c_Keeper) "known" = some none) (na_Keeper_rest:findIn K (.ref c_Keeper) "rest" = some none) (na_Keeper_done:findIn K (.ref c_Keeper) "done" = some none)
  {f_Q29:Addr} {d_Q29:FuncData} (h_is_whole:dN K "is_whole" yu f_Q29 d_Q29)
  {f_Q11:Addr} {d_Q11:FuncData} (h_is_tuple_of:dN K "is_tuple_of" yO f_Q11 d_Q11)
  {f_Q6:Addr} {d_Q6:FuncData} (h_is_number_of:dN K "is_number_of" EE f_Q6 d_Q6)
  {f_Q0:Addr} {d_Q0:FuncData} (h_greatest_divisor:dN K "greatest_divisor" EL f_Q0 d_Q0)
  {f_Q30:Addr} {d_Q30:FuncData} (h_is_ratio:dN K "is_ratio" yt f_Q30 d_Q30)
  {f_Q1:Addr} {d_Q1:FuncData} (h_is_above_nought:dN K "is_above_nought" EK f_Q1 d_Q1)
  {f_Q43:Addr} {d_Q43:FuncData} (h_ratio:dN K "ratio" ye f_Q43 d_Q43)
  {f_Q48:Addr} {d_Q48:FuncData} (h_plus:dN K "plus" xZ f_Q48 d_Q48)
  {f_Q44:Addr} {d_Q44:FuncData} (h_minus:dN K "minus" yd f_Q44 d_Q44)
  {f_Q45:Addr} {d_Q45:FuncData} (h_times:dN K "times" yc f_Q45 d_Q45)
  {f_Q49:Addr} {d_Q49:FuncData} (h_over:dN K "over" xY f_Q49 d_Q49)
  {f_Q39:Addr} {d_Q39:FuncData} (h_is_less:dN K "is_less" yi f_Q39 d_Q39)
  {f_Q41:Addr} {d_Q41:FuncData} (h_lesser:dN K "lesser" yg f_Q41 d_Q41)
  {f_Q46:Addr} {d_Q46:FuncData} (h_total:dN K "total" yb f_Q46 d_Q46)
  {f_Q12:Addr} {d_Q12:FuncData} (h_whole_parts:dN K "whole_parts" yN f_Q12 d_Q12)
  {f_Q40:Addr} {d_Q40:FuncData} (h_is_work:dN K "is_work" yh f_Q40 d_Q40)
  {f_Q23:Addr} {d_Q23:FuncData} (h_in_window:dN K "in_window" yC f_Q23 d_Q23)
  {f_Q13:Addr} {d_Q13:FuncData} (h_no_leanings:dN K "no_leanings" yM f_Q13 d_Q13)
  {f_Q31:Addr} {d_Q31:FuncData} (h_add_lean:dN K "add_lean" yr f_Q31 d_Q31)
  {f_Q7:Addr} {d_Q7:FuncData} (h_all_leanings:dN K "all_leanings" ED f_Q7 d_Q7)
  {f_Q32:Addr} {d_Q32:FuncData} (h_drawn_in:dN K "drawn_in" yq f_Q32 d_Q32)
  {f_Q8:Addr} {d_Q8:FuncData} (h_kept_windows:dN K "kept_windows" EC f_Q8 d_Q8)
  {f_Q50:Addr} {d_Q50:FuncData} (h_held:dN K "held" xX f_Q50 d_Q50)
  {f_Q2:Addr} {d_Q2:FuncData} (h_tightest_places:dN K "tightest_places" EJ f_Q2 d_Q2)
  {f_Q33:Addr} {d_Q33:FuncData} (h_tightest:dN K "tightest" yo f_Q33 d_Q33)
  {f_Q42:Addr} {d_Q42:FuncData} (h_layers:dN K "layers" yf f_Q42 d_Q42)
  {f_Q3:Addr} {d_Q3:FuncData} (h_layer_density:dN K "layer_density" EI f_Q3 d_Q3)
  {f_Q9:Addr} {d_Q9:FuncData} (h_layer_speeds:dN K "layer_speeds" EB f_Q9 d_Q9)
  {f_Q4:Addr} {d_Q4:FuncData} (h_first_to_come:dN K "first_to_come" EH f_Q4 d_Q4)
  {f_Q34:Addr} {d_Q34:FuncData} (h_order_of:dN K "order_of" yn f_Q34 d_Q34)
  {f_Q24:Addr} {d_Q24:FuncData} (h_deal_turn:dN K "deal_turn" yB f_Q24 d_Q24)
  {f_Q47:Addr} {d_Q47:FuncData} (h_dealt:dN K "dealt" ya f_Q47 d_Q47)
  {f_Q20:Addr} {d_Q20:FuncData} (h_least_plan:dN K "least_plan" yF f_Q20 d_Q20)
  {f_Q5:Addr} {d_Q5:FuncData} (h_waiting_works:dN K "waiting_works" EG f_Q5 d_Q5)
  {f_Q21:Addr} {d_Q21:FuncData} (h_renumbered:dN K "renumbered" yE f_Q21 d_Q21)
  {f_Q14:Addr} {d_Q14:FuncData} (h_law_cell_at:dN K "_law_cell_at" yL f_Q14 d_Q14)
  {f_Q25:Addr} {d_Q25:FuncData} (h_law_draws:dN K "_law_draws" yA f_Q25 d_Q25)
  {f_Q35:Addr} {d_Q35:FuncData} (h_law_take:dN K "_law_take" ym f_Q35 d_Q35)
  {f_Q36:Addr} {d_Q36:FuncData} (h_law_made:dN K "_law_made" yl f_Q36 d_Q36)
  {f_Q37:Addr} {d_Q37:FuncData} (h_law_plus:dN K "_law_plus" yk f_Q37 d_Q37)
  {f_Q15:Addr} {d_Q15:FuncData} (h_law_is_less:dN K "_law_is_less" yK f_Q15 d_Q15)
  {f_Q26:Addr} {d_Q26:FuncData} (h_law_total:dN K "_law_total" yz f_Q26 d_Q26)
  {f_Q16:Addr} {d_Q16:FuncData} (h_law_planned:dN K "_law_planned" yJ f_Q16 d_Q16)
  {f_Q27:Addr} {d_Q27:FuncData} (h_law_falls:dN K "_law_falls" yy f_Q27 d_Q27)
  {f_Q38:Addr} {d_Q38:FuncData} (h_law_step:dN K "_law_step" yj f_Q38 d_Q38)
  {f_Q51:Addr} {d_Q51:FuncData} (h_law:dN K "law" xW f_Q51 d_Q51)
  {f_Q17:Addr} {d_Q17:FuncData} (h_Keeper_init:wN K c_Keeper "__init__" "Keeper.__init__" yI f_Q17 d_Q17)
  {f_Q18:Addr} {d_Q18:FuncData} (h_Keeper_come:wN K c_Keeper "come" "Keeper.come" yH f_Q18 d_Q18)
  {f_Q28:Addr} {d_Q28:FuncData} (h_Keeper_go:wN K c_Keeper "go" "Keeper.go" yx f_Q28 d_Q28)
  {f_Q22:Addr} {d_Q22:FuncData} (h_Keeper_now:wN K c_Keeper "now" "Keeper.now" yD f_Q22 d_Q22)
  {f_Q10:Addr} {d_Q10:FuncData} (h_Keeper_works:wN K c_Keeper "works" "Keeper.works" yP f_Q10 d_Q10)
  {f_Q19:Addr} {d_Q19:FuncData} (h_Keeper_left:wN K c_Keeper "left" "Keeper.left" yG f_Q19 d_Q19)
  {f_NOUGHT:Addr} {od_NOUGHT:Option Addr} {sl_NOUGHT:Array (Option Value)} {tkNOUGHT0 tkNOUGHT1:Tok} {n_NOUGHT:Nat} (p_NOUGHT:nsIn K mainGlobals "NOUGHT" = some (some (.ref f_NOUGHT))) (l_NOUGHT:K.lookup f_NOUGHT=some ⟨.type "tuple", od_NOUGHT,.seq #[.int (0) tkNOUGHT0,.int (1) tkNOUGHT1] n_NOUGHT,sl_NOUGHT⟩)
  {tkTURNS:Tok} (p_TURNS:nsIn K mainGlobals "TURNS" = some (some (.int (24) tkTURNS)))
  {tkMOST_WORKS:Tok} (p_MOST_WORKS:nsIn K mainGlobals "MOST_WORKS" = some (some (.int (20) tkMOST_WORKS)))
  (z_abs:nsIn K mainGlobals "abs" = some none)
  (z_any:nsIn K mainGlobals "any" = some none)
  (z_bool:nsIn K mainGlobals "bool" = some none)
  (z_enumerate:nsIn K mainGlobals "enumerate" = some none)
  (z_int:nsIn K mainGlobals "int" = some none)
  (z_isinstance:nsIn K mainGlobals "isinstance" = some none)
  (z_len:nsIn K mainGlobals "len" = some none)
  (z_list:nsIn K mainGlobals "list" = some none)
  (z_max:nsIn K mainGlobals "max" = some none)
  (z_min:nsIn K mainGlobals "min" = some none)
  (z_range:nsIn K mainGlobals "range" = some none)
  (z_sum:nsIn K mainGlobals "sum" = some none)
  (z_tuple:nsIn K mainGlobals "tuple" = some none)
  : ∃ fd:FuncData,(∀ (s:Shared) (v:Value),BindsTo s fd ⟨[v],[]⟩ [("_law_script", v)])/\∀ base:Heap,K.In base->base.Ns mainGlobals mg->bo l.prog w K mg base dE 9 fa fd ["_law_script"] (oG K):=by
 have e:=hfa.symm.trans (mg_of X G h_law.p)
 cases e
 obtain⟨_,_,_,_,_,_,_,_,_,rfl,_,_⟩:=h_law.F.ex
 have T:d8 K mg ⟨f_Q29,_,f_Q11,_,f_Q6,_,f_Q0,_,f_Q30,_,f_Q1,_,f_Q43,_,f_Q48,_,f_Q44,_,f_Q45,_,f_Q49,_,f_Q39,_,f_Q41,_,f_Q46,_,f_Q12,_,f_Q40,_,f_Q23,_,f_Q13,_,f_Q31,_,f_Q7,_,f_Q32,_,f_Q8,_,f_Q50,_,f_Q2,_,f_Q33,_,f_Q42,_,f_Q3,_,f_Q9,_,f_Q4,_,f_Q34,_,f_Q24,_,f_Q47,_,f_Q20,_,f_Q5,_,f_Q21,_,f_Q14,_,f_Q25,_,f_Q35,_,f_Q36,_,f_Q37,_,f_Q15,_,f_Q26,_,f_Q16,_,f_Q27,_,f_Q38,_,fa,_,f_Q17,_,f_Q18,_,f_Q28,_,f_Q22,_,f_Q10,_,f_Q19,_,c_Keeper,f_NOUGHT,tkTURNS,tkMOST_WORKS⟩:={
  F_Q29:=h_is_whole.F,b_Q29:=h_is_whole.b1,m_Q29:=mg_of X G h_is_whole.p,
  F_Q11:=h_is_tuple_of.F,b_Q11:=h_is_tuple_of.b2,m_Q11:=mg_of X G h_is_tuple_of.p,
  F_Q6:=h_is_number_of.F,b_Q6:=h_is_number_of.b2,m_Q6:=mg_of X G h_is_number_of.p,
  F_Q0:=h_greatest_divisor.F,b_Q0:=h_greatest_divisor.b2,m_Q0:=mg_of X G h_greatest_divisor.p,
  F_Q30:=h_is_ratio.F,b_Q30:=h_is_ratio.b1,m_Q30:=mg_of X G h_is_ratio.p,
  F_Q1:=h_is_above_nought.F,b_Q1:=h_is_above_nought.b1,m_Q1:=mg_of X G h_is_above_nought.p,
  F_Q43:=h_ratio.F,b_Q43:=h_ratio.b2,m_Q43:=mg_of X G h_ratio.p,
  F_Q48:=h_plus.F,b_Q48:=h_plus.b2,m_Q48:=mg_of X G h_plus.p,
  F_Q44:=h_minus.F,b_Q44:=h_minus.b2,m_Q44:=mg_of X G h_minus.p,
  F_Q45:=h_times.F,b_Q45:=h_times.b2,m_Q45:=mg_of X G h_times.p,
  F_Q49:=h_over.F,b_Q49:=h_over.b2,m_Q49:=mg_of X G h_over.p,
  F_Q39:=h_is_less.F,b_Q39:=h_is_less.b2,m_Q39:=mg_of X G h_is_less.p,
  F_Q41:=h_lesser.F,b_Q41:=h_lesser.b2,m_Q41:=mg_of X G h_lesser.p,
  F_Q46:=h_total.F,b_Q46:=h_total.b1,m_Q46:=mg_of X G h_total.p,
  F_Q12:=h_whole_parts.F,b_Q12:=h_whole_parts.b1,m_Q12:=mg_of X G h_whole_parts.p,
  F_Q40:=h_is_work.F,b_Q40:=h_is_work.b1,m_Q40:=mg_of X G h_is_work.p,
  F_Q23:=h_in_window.F,b_Q23:=h_in_window.b2,m_Q23:=mg_of X G h_in_window.p,
  F_Q13:=h_no_leanings.F,b_Q13:=h_no_leanings.b1,m_Q13:=mg_of X G h_no_leanings.p,
  F_Q31:=h_add_lean.F,b_Q31:=h_add_lean.b2,m_Q31:=mg_of X G h_add_lean.p,
  F_Q7:=h_all_leanings.F,b_Q7:=h_all_leanings.b2,m_Q7:=mg_of X G h_all_leanings.p,
  F_Q32:=h_drawn_in.F,b_Q32:=h_drawn_in.b1,m_Q32:=mg_of X G h_drawn_in.p,
  F_Q8:=h_kept_windows.F,b_Q8:=h_kept_windows.b2,m_Q8:=mg_of X G h_kept_windows.p,
  F_Q50:=h_held.F,b_Q50:=h_held.b3,m_Q50:=mg_of X G h_held.p,
  F_Q2:=h_tightest_places.F,b_Q2:=h_tightest_places.b3,m_Q2:=mg_of X G h_tightest_places.p,
  F_Q33:=h_tightest.F,b_Q33:=h_tightest.b2,m_Q33:=mg_of X G h_tightest.p,
  F_Q42:=h_layers.F,b_Q42:=h_layers.b1,m_Q42:=mg_of X G h_layers.p,
  F_Q3:=h_layer_density.F,b_Q3:=h_layer_density.b2,m_Q3:=mg_of X G h_layer_density.p,
  F_Q9:=h_layer_speeds.F,b_Q9:=h_layer_speeds.b1,m_Q9:=mg_of X G h_layer_speeds.p,
  F_Q4:=h_first_to_come.F,b_Q4:=h_first_to_come.b3,m_Q4:=mg_of X G h_first_to_come.p,
  F_Q34:=h_order_of.F,b_Q34:=h_order_of.b2,m_Q34:=mg_of X G h_order_of.p,
  F_Q24:=h_deal_turn.F,b_Q24:=h_deal_turn.b5,m_Q24:=mg_of X G h_deal_turn.p,
  F_Q47:=h_dealt.F,b_Q47:=h_dealt.b3,m_Q47:=mg_of X G h_dealt.p,
  F_Q20:=h_least_plan.F,b_Q20:=h_least_plan.b1,m_Q20:=mg_of X G h_least_plan.p,
  F_Q5:=h_waiting_works.F,b_Q5:=h_waiting_works.b3,m_Q5:=mg_of X G h_waiting_works.p,
  F_Q21:=h_renumbered.F,b_Q21:=h_renumbered.b2,m_Q21:=mg_of X G h_renumbered.p,
  F_Q14:=h_law_cell_at.F,b_Q14:=h_law_cell_at.b2,m_Q14:=mg_of X G h_law_cell_at.p,
  F_Q25:=h_law_draws.F,b_Q25:=h_law_draws.b2,m_Q25:=mg_of X G h_law_draws.p,
  F_Q35:=h_law_take.F,b_Q35:=h_law_take.b2,m_Q35:=mg_of X G h_law_take.p,
  F_Q36:=h_law_made.F,b_Q36:=h_law_made.b2,m_Q36:=mg_of X G h_law_made.p,
  F_Q37:=h_law_plus.F,b_Q37:=h_law_plus.b2,m_Q37:=mg_of X G h_law_plus.p,
  F_Q15:=h_law_is_less.F,b_Q15:=h_law_is_less.b2,m_Q15:=mg_of X G h_law_is_less.p,
  F_Q26:=h_law_total.F,b_Q26:=h_law_total.b1,m_Q26:=mg_of X G h_law_total.p,
  F_Q16:=h_law_planned.F,b_Q16:=h_law_planned.b1,m_Q16:=mg_of X G h_law_planned.p,
  F_Q27:=h_law_falls.F,b_Q27:=h_law_falls.b1,m_Q27:=mg_of X G h_law_falls.p,
  F_Q38:=h_law_step.F,b_Q38:=h_law_step.b2,m_Q38:=mg_of X G h_law_step.p,
  F_Q51:=h_law.F,b_Q51:=h_law.b1,m_Q51:=mg_of X G h_law.p,
  F_Q17:=h_Keeper_init.F,b_Q17:=h_Keeper_init.b1,K_Keeper:=⟨x5_Keeper,h_Keeper_init.p,h_Keeper_init.fn,x6_Keeper⟩,
  F_Q18:=h_Keeper_come.F,b_Q18:=h_Keeper_come.b3,M_Keeper_come:=h_Keeper_come.meth,
  F_Q28:=h_Keeper_go.F,b_Q28:=h_Keeper_go.b1,M_Keeper_go:=h_Keeper_go.meth,
  F_Q22:=h_Keeper_now.F,b_Q22:=h_Keeper_now.b1,M_Keeper_now:=h_Keeper_now.meth,
  F_Q10:=h_Keeper_works.F,b_Q10:=h_Keeper_works.b1,M_Keeper_works:=h_Keeper_works.meth,
  F_Q19:=h_Keeper_left.F,b_Q19:=h_Keeper_left.b1,M_Keeper_left:=h_Keeper_left.meth,
  m_Keeper:=mg_of X G p_Keeper,cl_Keeper:=⟨x1_Keeper,x2_Keeper,x3_Keeper,x4_Keeper⟩,n_Keeper_turn:=na_Keeper_turn,n_Keeper_known:=na_Keeper_known,n_Keeper_rest:=na_Keeper_rest,n_Keeper_done:=na_Keeper_done,
  m_NOUGHT:=mg_of X G p_NOUGHT,q_NOUGHT:=fun H=>.inr ⟨_,_,_,l_NOUGHT,rfl,rfl,oo,(.cons ⟨_,rfl⟩ (.cons ⟨_,rfl⟩ .nil))⟩,
  m_TURNS:=mg_of X G p_TURNS,
  m_MOST_WORKS:=mg_of X G p_MOST_WORKS,
  z_abs:=mg_none_of X G z_abs,z_any:=mg_none_of X G z_any,z_bool:=mg_none_of X G z_bool,z_enumerate:=mg_none_of X G z_enumerate,z_int:=mg_none_of X G z_int,z_isinstance:=mg_none_of X G z_isinstance,z_len:=mg_none_of X G z_len,z_list:=mg_none_of X G z_list,z_max:=mg_none_of X G z_max,z_min:=mg_none_of X G z_min,z_range:=mg_none_of X G z_range,z_sum:=mg_none_of X G z_sum,z_tuple:=mg_none_of X G z_tuple }
 exact⟨_,fun s v=>.of_eq rfl,fun base _ _=>Fu T⟩
theorem walk {l:PySem.W.OpenLaw} {q:Program} {loose:List Str} {XP:(Str->Option Value)->Heap->Prop} {YP:World->Heap->Prop} {d:DefRec} {K:Params->PySem.W.Frag} (hn:l.most=some 63) (hdf:d.params.defaults=[])
  (hY:∀ (w:World) (h:Heap),YP w h->(K w.params).In h)
  (F:∀ (w:World) (mg:Str->Option Value) (fa:Addr) (h:Heap),(K w.params).In h->h.Ns mainGlobals mg->mg d.name=some (.ref fa)→
   ∃ fd:FuncData,(∀ (s:Shared) (u:Value),BindsTo s fd ⟨[u],[]⟩ [("_law_script", u)])/\∀ base:Heap,(K w.params).In base->base.Ns mainGlobals mg->bo l.prog w (K w.params) mg base dE 9 fa fd ["_law_script"] (oG (K w.params))) :
  PySem.W.WalkO q loose XP YP l.row.toRowW d [] (fun f vs=>PySem.call f vs):=
 L2.walk_of (n:=63) (k:=9) (x := "_law_script") (CX:=fun _=>dE) (sp:=fun w=>oG (K w.params)) hn (by decide) hdf ⟨rfl,by decide,by decide,rfl⟩ hY F (fun _ _ a ns hl _ hS=>⟨a,ns,rfl,hS,hl,fun _=>rfl⟩) fun _ _ _ _ _ z=>z
end My
open PySem PySem.W PyProof.Rows
set_option maxRecDepth 100000 in
set_option maxHeartbeats 0 in
theorem PySem.Challenge.cw_paceplan_k67_whole_a_work_more_lowers_no_holds : PySem.Challenge.rw_paceplan_k67_whole_a_work_more_lowers_no.Holds := by
 w_on;refine HWtop ?_
 k_fill
 refine My.walk (l:=PySem.Challenge.rw_paceplan_k67_whole_a_work_more_lowers_no) rfl rfl (fun w h Y=>PySem.W.kIn_of Y) ?F
 case F=>
  intro w mg fa h KX G hmg
  refine' My.all_mk KX G hmg ?p_Keeper ?x1_Keeper ?x2_Keeper ?x3_Keeper ?x4_Keeper ?x5_Keeper ?x6_Keeper ?na_Keeper_turn ?na_Keeper_known ?na_Keeper_rest ?na_Keeper_done ?h_is_whole ?h_is_tuple_of ?h_is_number_of ?h_greatest_divisor ?h_is_ratio ?h_is_above_nought ?h_ratio ?h_plus ?h_minus ?h_times ?h_over ?h_is_less ?h_lesser ?h_total ?h_whole_parts ?h_is_work ?h_in_window ?h_no_leanings ?h_add_lean ?h_all_leanings ?h_drawn_in ?h_kept_windows ?h_held ?h_tightest_places ?h_tightest ?h_layers ?h_layer_density ?h_layer_speeds ?h_first_to_come ?h_order_of ?h_deal_turn ?h_dealt ?h_least_plan ?h_waiting_works ?h_renumbered ?h_law_cell_at ?h_law_draws ?h_law_take ?h_law_made ?h_law_plus ?h_law_is_less ?h_law_total ?h_law_planned ?h_law_falls ?h_law_step ?h_law ?h_Keeper_init ?h_Keeper_come ?h_Keeper_go ?h_Keeper_now ?h_Keeper_works ?h_Keeper_left ?p_NOUGHT ?l_NOUGHT ?p_TURNS ?p_MOST_WORKS ?z_abs ?z_any ?z_bool ?z_enumerate ?z_int ?z_isinstance ?z_len ?z_list ?z_max ?z_min ?z_range ?z_sum ?z_tuple
  (case p_Keeper=>k_is)
  (case x1_Keeper=>k_is)
  (case x2_Keeper=>k_is)
  (case x3_Keeper=>k_is)
  (case x4_Keeper=>k_is)
  (case x5_Keeper=>k_is)
  (case x6_Keeper=>k_is)
  (case na_Keeper_turn=>k_is)
  (case na_Keeper_known=>k_is)
  (case na_Keeper_rest=>k_is)
  (case na_Keeper_done=>k_is)
  (case h_is_whole=>refine' B.isF ?a ?b ?c ?d;(case a=>k_is);(case b=>k_is);(case c=>k_is);(case d=>k_is))
  (case h_is_tuple_of=>refine' B.isF ?a ?b ?c ?d;(case a=>k_is);(case b=>k_is);(case c=>k_is);(case d=>k_is))
  (case h_is_number_of=>refine' B.isF ?a ?b ?c ?d;(case a=>k_is);(case b=>k_is);(case c=>k_is);(case d=>k_is))
  (case h_greatest_divisor=>refine' B.isF ?a ?b ?c ?d;(case a=>k_is);(case b=>k_is);(case c=>k_is);(case d=>k_is))
  (case h_is_ratio=>refine' B.isF ?a ?b ?c ?d;(case a=>k_is);(case b=>k_is);(case c=>k_is);(case d=>k_is))
  (case h_is_above_nought=>refine' B.isF ?a ?b ?c ?d;(case a=>k_is);(case b=>k_is);(case c=>k_is);(case d=>k_is))
  (case h_ratio=>refine' B.isF ?a ?b ?c ?d;(case a=>k_is);(case b=>k_is);(case c=>k_is);(case d=>k_is))
  (case h_plus=>refine' B.isF ?a ?b ?c ?d;(case a=>k_is);(case b=>k_is);(case c=>k_is);(case d=>k_is))
  (case h_minus=>refine' B.isF ?a ?b ?c ?d;(case a=>k_is);(case b=>k_is);(case c=>k_is);(case d=>k_is))
  (case h_times=>refine' B.isF ?a ?b ?c ?d;(case a=>k_is);(case b=>k_is);(case c=>k_is);(case d=>k_is))
  (case h_over=>refine' B.isF ?a ?b ?c ?d;(case a=>k_is);(case b=>k_is);(case c=>k_is);(case d=>k_is))
  (case h_is_less=>refine' B.isF ?a ?b ?c ?d;(case a=>k_is);(case b=>k_is);(case c=>k_is);(case d=>k_is))
  (case h_lesser=>refine' B.isF ?a ?b ?c ?d;(case a=>k_is);(case b=>k_is);(case c=>k_is);(case d=>k_is))
  (case h_total=>refine' B.isF ?a ?b ?c ?d;(case a=>k_is);(case b=>k_is);(case c=>k_is);(case d=>k_is))
  (case h_whole_parts=>refine' B.isF ?a ?b ?c ?d;(case a=>k_is);(case b=>k_is);(case c=>k_is);(case d=>k_is))
  (case h_is_work=>refine' B.isF ?a ?b ?c ?d;(case a=>k_is);(case b=>k_is);(case c=>k_is);(case d=>k_is))
  (case h_in_window=>refine' B.isF ?a ?b ?c ?d;(case a=>k_is);(case b=>k_is);(case c=>k_is);(case d=>k_is))
  (case h_no_leanings=>refine' B.isF ?a ?b ?c ?d;(case a=>k_is);(case b=>k_is);(case c=>k_is);(case d=>k_is))
  (case h_add_lean=>refine' B.isF ?a ?b ?c ?d;(case a=>k_is);(case b=>k_is);(case c=>k_is);(case d=>k_is))
  (case h_all_leanings=>refine' B.isF ?a ?b ?c ?d;(case a=>k_is);(case b=>k_is);(case c=>k_is);(case d=>k_is))
  (case h_drawn_in=>refine' B.isF ?a ?b ?c ?d;(case a=>k_is);(case b=>k_is);(case c=>k_is);(case d=>k_is))
  (case h_kept_windows=>refine' B.isF ?a ?b ?c ?d;(case a=>k_is);(case b=>k_is);(case c=>k_is);(case d=>k_is))
  (case h_held=>refine' B.isF ?a ?b ?c ?d;(case a=>k_is);(case b=>k_is);(case c=>k_is);(case d=>k_is))
  (case h_tightest_places=>refine' B.isF ?a ?b ?c ?d;(case a=>k_is);(case b=>k_is);(case c=>k_is);(case d=>k_is))
  (case h_tightest=>refine' B.isF ?a ?b ?c ?d;(case a=>k_is);(case b=>k_is);(case c=>k_is);(case d=>k_is))
  (case h_layers=>refine' B.isF ?a ?b ?c ?d;(case a=>k_is);(case b=>k_is);(case c=>k_is);(case d=>k_is))
  (case h_layer_density=>refine' B.isF ?a ?b ?c ?d;(case a=>k_is);(case b=>k_is);(case c=>k_is);(case d=>k_is))
  (case h_layer_speeds=>refine' B.isF ?a ?b ?c ?d;(case a=>k_is);(case b=>k_is);(case c=>k_is);(case d=>k_is))
  (case h_first_to_come=>refine' B.isF ?a ?b ?c ?d;(case a=>k_is);(case b=>k_is);(case c=>k_is);(case d=>k_is))
  (case h_order_of=>refine' B.isF ?a ?b ?c ?d;(case a=>k_is);(case b=>k_is);(case c=>k_is);(case d=>k_is))
  (case h_deal_turn=>refine' B.isF ?a ?b ?c ?d;(case a=>k_is);(case b=>k_is);(case c=>k_is);(case d=>k_is))
  (case h_dealt=>refine' B.isF ?a ?b ?c ?d;(case a=>k_is);(case b=>k_is);(case c=>k_is);(case d=>k_is))
  (case h_least_plan=>refine' B.isF ?a ?b ?c ?d;(case a=>k_is);(case b=>k_is);(case c=>k_is);(case d=>k_is))
  (case h_waiting_works=>refine' B.isF ?a ?b ?c ?d;(case a=>k_is);(case b=>k_is);(case c=>k_is);(case d=>k_is))
  (case h_renumbered=>refine' B.isF ?a ?b ?c ?d;(case a=>k_is);(case b=>k_is);(case c=>k_is);(case d=>k_is))
  (case h_law_cell_at=>refine' B.isF ?a ?b ?c ?d;(case a=>k_is);(case b=>k_is);(case c=>k_is);(case d=>k_is))
  (case h_law_draws=>refine' B.isF ?a ?b ?c ?d;(case a=>k_is);(case b=>k_is);(case c=>k_is);(case d=>k_is))
  (case h_law_take=>refine' B.isF ?a ?b ?c ?d;(case a=>k_is);(case b=>k_is);(case c=>k_is);(case d=>k_is))
  (case h_law_made=>refine' B.isF ?a ?b ?c ?d;(case a=>k_is);(case b=>k_is);(case c=>k_is);(case d=>k_is))
  (case h_law_plus=>refine' B.isF ?a ?b ?c ?d;(case a=>k_is);(case b=>k_is);(case c=>k_is);(case d=>k_is))
  (case h_law_is_less=>refine' B.isF ?a ?b ?c ?d;(case a=>k_is);(case b=>k_is);(case c=>k_is);(case d=>k_is))
  (case h_law_total=>refine' B.isF ?a ?b ?c ?d;(case a=>k_is);(case b=>k_is);(case c=>k_is);(case d=>k_is))
  (case h_law_planned=>refine' B.isF ?a ?b ?c ?d;(case a=>k_is);(case b=>k_is);(case c=>k_is);(case d=>k_is))
  (case h_law_falls=>refine' B.isF ?a ?b ?c ?d;(case a=>k_is);(case b=>k_is);(case c=>k_is);(case d=>k_is))
  (case h_law_step=>refine' B.isF ?a ?b ?c ?d;(case a=>k_is);(case b=>k_is);(case c=>k_is);(case d=>k_is))
  (case h_law=>refine' B.isF ?a ?b ?c ?d;(case a=>k_is);(case b=>k_is);(case c=>k_is);(case d=>k_is))
  (case h_Keeper_init=>refine' B.isM ?a ?e ?b ?c ?d;(case a=>k_is);(case e=>k_is);(case b=>k_is);(case c=>k_is);(case d=>k_is))
  (case h_Keeper_come=>refine' B.isM ?a ?e ?b ?c ?d;(case a=>k_is);(case e=>k_is);(case b=>k_is);(case c=>k_is);(case d=>k_is))
  (case h_Keeper_go=>refine' B.isM ?a ?e ?b ?c ?d;(case a=>k_is);(case e=>k_is);(case b=>k_is);(case c=>k_is);(case d=>k_is))
  (case h_Keeper_now=>refine' B.isM ?a ?e ?b ?c ?d;(case a=>k_is);(case e=>k_is);(case b=>k_is);(case c=>k_is);(case d=>k_is))
  (case h_Keeper_works=>refine' B.isM ?a ?e ?b ?c ?d;(case a=>k_is);(case e=>k_is);(case b=>k_is);(case c=>k_is);(case d=>k_is))
  (case h_Keeper_left=>refine' B.isM ?a ?e ?b ?c ?d;(case a=>k_is);(case e=>k_is);(case b=>k_is);(case c=>k_is);(case d=>k_is))
  (case p_NOUGHT=>k_is)
  (case l_NOUGHT=>k_is)
  (case p_TURNS=>k_is)
  (case p_MOST_WORKS=>k_is)
  (case z_abs=>k_is)
  (case z_any=>k_is)
  (case z_bool=>k_is)
  (case z_enumerate=>k_is)
  (case z_int=>k_is)
  (case z_isinstance=>k_is)
  (case z_len=>k_is)
  (case z_list=>k_is)
  (case z_max=>k_is)
  (case z_min=>k_is)
  (case z_range=>k_is)
  (case z_sum=>k_is)
  (case z_tuple=>k_is)
