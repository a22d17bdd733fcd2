import PyProof.Rows.All
import KE.RegKIsAll
import KE.RegKTryMore
import KE.KItem
import PySem.Challenge.RW_paceplan_k63_fits_of_hands
set_option Elab.async false
set_option linter.all false
set_option maxRecDepth 100000
set_option autoImplicit true
set_option relaxedAutoImplicit true
namespace HP
open PySem
abbrev S:=Stmt
noncomputable def b:=PySem.Challenge.pw_paceplan_k63_fits_of_hands.main.body
local macro_rules
 | `(tactic| o_head $n:term)=>`(tactic| (refine (?f:∀ s,b[$n]?=some s->_) _ rfl;exact fun s _=>s))
noncomputable def c0:S:=by o_head 0
noncomputable def c1:S:=by o_head 1
noncomputable def c2:S:=by o_head 2
noncomputable def c3:S:=by o_head 3
noncomputable def c4:S:=by o_head 4
noncomputable def c5:S:=by o_head 5
noncomputable def c6:S:=by o_head 6
noncomputable def c7:S:=by o_head 7
noncomputable def c8:S:=by o_head 8
noncomputable def c9:S:=by o_head 9
noncomputable def c10:S:=by o_head 10
noncomputable def c11:S:=by o_head 11
noncomputable def c12:S:=by o_head 12
noncomputable def c13:S:=by o_head 13
noncomputable def c14:S:=by o_head 14
noncomputable def c15:S:=by o_head 15
noncomputable def c16:S:=by o_head 16
noncomputable def c17:S:=by o_head 17
noncomputable def c18:S:=by o_head 18
noncomputable def c19:S:=by o_head 19
noncomputable def c20:S:=by o_head 20
noncomputable def c21:S:=by o_head 21
noncomputable def c22:S:=by o_head 22
noncomputable def c23:S:=by o_head 23
noncomputable def c24:S:=by o_head 24
noncomputable def c25:S:=by o_head 25
noncomputable def c26:S:=by o_head 26
noncomputable def c27:S:=by o_head 27
noncomputable def c28:S:=by o_head 28
noncomputable def c29:S:=by o_head 29
noncomputable def c30:S:=by o_head 30
noncomputable def c31:S:=by o_head 31
noncomputable def c32:S:=by o_head 32
noncomputable def c33:S:=by o_head 33
noncomputable def c34:S:=by o_head 34
noncomputable def c35:S:=by o_head 35
noncomputable def c36:S:=by o_head 36
noncomputable def c37:S:=by o_head 37
noncomputable def c38:S:=by o_head 38
noncomputable def c39:S:=by o_head 39
noncomputable def c40:S:=by o_head 40
noncomputable def c41:S:=by o_head 41
noncomputable def c42:S:=by o_head 42
noncomputable def c43:S:=by o_head 43
noncomputable def c44:S:=by o_head 44
noncomputable def c45:S:=by o_head 45
noncomputable def c46:S:=by o_head 46
noncomputable def c47:S:=by o_head 47
noncomputable def c48:S:=by o_head 48
noncomputable def c49:S:=by o_head 49
noncomputable def c50:S:=by o_head 50
noncomputable def c51:S:=by o_head 51
noncomputable def t43:List S:=c43::c44::c45::c46::c47::c48::c49::c50::c51::[]
noncomputable def t34:List S:=c34::c35::c36::c37::c38::c39::c40::c41::c42::t43
noncomputable def t25:List S:=c25::c26::c27::c28::c29::c30::c31::c32::c33::t34
noncomputable def t16:List S:=c16::c17::c18::c19::c20::c21::c22::c23::c24::t25
noncomputable def t7:List S:=c7::c8::c9::c10::c11::c12::c13::c14::c15::t16
noncomputable def t0:List S:=c0::c1::c2::c3::c4::c5::c6::t7
noncomputable def s:Scope:=by refine (?f:∀ s,PySem.Challenge.pw_paceplan_k63_fits_of_hands.main=⟨_,s,_,_,_⟩->_) _ rfl;exact fun s _=>s
noncomputable def p:Program:=by
 refine (?f:∀ l s a f m ms ps ab h g,PySem.Challenge.pw_paceplan_k63_fits_of_hands=Program.mk ⟨l,s,a,f,m⟩ ms ps ab h g->_) _ _ _ _ _ _ _ _ _ _ rfl
 exact fun _ _ a f m ms ps ab h g _=>⟨⟨t0,s,a,f,m⟩,ms,ps,ab,h,g⟩
theorem e:PySem.Challenge.pw_paceplan_k63_fits_of_hands=p:=by kernel_rfl
end HP
name_quick tw11615481326507494990 for HP.p by HP.e
theorem PySem.W.Fast.te11615481326507494990:PySem.Challenge.pw_paceplan_k63_fits_of_hands=PySem.W.Fast.tw11615481326507494990:=PySem.W.Fast.tw11615481326507494990_eq
theorem zH {α β γ:Type} {o:Option α} {f:α->β} {g:α->γ} {a:β} {b:γ} (h1:o.map f=some a) (h2:o.map g=some b):o.map (fun s=>(f s,g s))=some (a,b):=by
 cases o with
 | none=>cases h1
 | some x=>cases h1;cases h2;rfl
namespace HW
open PySem
def keep:List Nat:=[0,2,3,4,5,7,8,9,11,12,13,14,15,16,17,18,19,20,22,23,24,25,27,28,29,31,32,33,34,35,36,37,38,39,40,41,42,43,44,45,46,47,48,49,50,51]
def V:Program:=PySem.W.view PySem.Challenge.pw_paceplan_k63_fits_of_hands keep
end HW
section HWs
open PySem PySem.W PyProof.Rows
set_option maxHeartbeats 0
abbrev HWe(w:World):=openEnds treeTable PySem.Challenge.rw_paceplan_k63_fits_of_hands.row.prog w 4930
abbrev HWo:=fun s:Shared=>openSeen HW.V [] (importedModules PySem.Challenge.rw_paceplan_k63_fits_of_hands.row.prog.main.body) (fun s=>xlAt HW.V [] s && recOk PySem.Challenge.rw_paceplan_k63_fits_of_hands.row.records s) true s
local macro_rules
 | `(tactic| nofun)=>`(tactic| (intro w;delta HWe HWo openEnds fencedOpening topFrom;rw [PySem.W.Fast.te14364793385576792824,PySem.W.Fast.te14082659384304107361,PySem.W.Fast.te10274390034422433532,PySem.W.Fast.te1435165496053646825,PySem.W.Fast.te14289696077712309145,PySem.W.Fast.te4187177175401517315];kernel_rfl))
theorem HW1:∀ w,(HWe w).map (fun s=>(HWo s).1)=some (openGood HW.V []).1:=by nofun
theorem HW2:∀ w,(HWe w).map (fun s=>(HWo s).2.1)=some (openGood HW.V []).2.1:=by nofun
theorem HW3:∀ w,(HWe w).map (fun s=>(HWo s).2.2.1)=some (openGood HW.V []).2.2.1:=by nofun
theorem HW4:∀ w,(HWe w).map (fun s=>(HWo s).2.2.2)=some (openGood HW.V []).2.2.2:=by nofun
theorem HWa:∀ w,(HWe w).map HWo=some (openGood HW.V []):=fun w=>zH (HW1 w) (zH (HW2 w) (zH (HW3 w) (HW4 w)))
local macro_rules
 | `(tactic| o_head $H:term) => `(tactic| (
   refine holds_open (q:=HW.V) (loose:=[]) (N:=4930)
    (Xt:=fun s=>xlAt HW.V [] s && recOk (RowW.records (OpenRow.toRowW (OpenLaw.row PySem.Challenge.rw_paceplan_k63_fits_of_hands))) s)
    (XP:=XL HW.V []) (Yf:=Hook.obs $H) (Ya:=Hook.val $H) (YP:=Hook.says $H)
    ?hl (Hook.of $H) (Hook.keeps $H)
    (fun s e=>xl_of s (Bool.and_eq_true_iff.mp e).1) XL.keeps
    (by rfl) (by rfl) (by rfl)
    (fun s e=>recFacts_of (Bool.and_eq_true_iff.mp e).2) (by rfl) (by assumption) (by decide +kernel)
    ⟨rfl,rfl,rfl,rfl,rfl,by decide +kernel⟩ ?hw ?hc
   (case hl=>
    intro w;refine zH (HWa w) ?_;delta openEnds fencedOpening topFrom;rw [PySem.W.Fast.te14364793385576792824,PySem.W.Fast.te14082659384304107361,PySem.W.Fast.te10274390034422433532,PySem.W.Fast.te1435165496053646825,PySem.W.Fast.te14289696077712309145]
    kernel_rfl)))
open_top HWtop for PySem.Challenge.rw_paceplan_k63_fits_of_hands
end HWs
open Array renaming length_toList→Lg,getElem?_eq_getElem→L9,getElem?_eq_none→M8,getD→Pn,getElem?_map→Rw,toList_push→R0,toList_map→Sr
open Bool renaming false_ne_true→Kj,false_eq_true→Lf,and_eq_true→LG,eq_iff_iff→L1,not_true→M9,and_true→NT,false_and→NY,and_false→N7,not_eq_true'→PL,false_or→Rg,or_false→Rj,or_true→R9,not_false→Ta
open Classical renaming byContradiction→KC,propDecidable→Qe,not_not→Sc
open False renaming elim→MY
open ForInStep renaming yield→OZ
open Int renaming gcd→KA,mul_ediv_cancel_left→KS,eq_ofNat_of_zero_le→Lq,le_of_lt→Lw,mul_pos→LJ,natCast_dvd_natCast→LZ,mul_le_mul_of_nonneg_left→Me,natAbs_mul→Ms,emod_nonneg→Mx,emod_lt_of_pos→MF,mul_comm→MK,gcd_comm→ML,zero_add→MM,toNat_natCast→MS,mul_zero→M6,ediv_pos_of_pos_of_dvd→Nc,natAbs_dvd_natAbs→Ng,gcd_dvd_right→Nn,le_of_dvd→Nu,natCast_mul→NL,dvd_trans→NU,le_refl→N6,gcd_ediv_gcd_ediv_gcd→Oc,ediv_nonneg→Og,natAbs_natCast→Oo,le_trans→OF,ediv_le_self→OO,gcd_add_mul_right_right→O7,fdiv_eq_ediv_of_nonneg→Pf,eq_of_mul_eq_mul_right→Pj,mul_assoc→PV,natAbs_of_nonneg→QR,lt_iff_le_and_ne→Q1,toNat_of_nonneg→Rc,gcd_eq_one_iff→Ru,sub_eq_add_neg→Rv,natCast_nonneg→Ry,ediv_one→RJ,le_total→RN,gcd_mul_right→RO,mul_left_comm→RP,sub_zero→R7,add_zero→R8,gcd_dvd_left→Sn,mul_one→Sw,neg_mul→Sy,natAbs_neg→S1
open LawfulBEq renaming eq_of_beq→Sm
open LawfulMonad renaming bind_assoc→Qu
open List renaming getElem?_eq_getElem→J6,length_map→J7,range→J9,mem_map→Kc,mem_of_getElem?→Ke,mem_cons_self→Kf,getElem?_eq_some_iff→Kg,replicate→Ki,mem_range→Kk,mem_filter→Kl,mem_cons_of_mem→Km,mem_cons→Kn,length_append→Ko,mem_singleton→Ks,getElem?_map→Kt,map_append→Ku,mem_append_right→Kw,length_range→KB,mem_append→KG,map_cons→KH,size_toArray→KI,take_add_one→KP,getD_eq_getElem?_getD→KQ,Nodup→KU,map_map→KY,length_take→K0,take_length→K2,filter_cons_of_neg→K4,getElem_mem→K6,mem_append_left→La,length_cons→Lb,filter_cons_of_pos→Lc,length_singleton→Ld,mem_iff_getElem→Lj,length_filter_le→Lm,nodup_cons→Lo,filter_append→Lv,getElem?_append_left→LC,append_nil→LF,length_eq_zero_iff→LL,getElem?_set_ne→LO,range_succ→LU,length_replicate→LW,mem_of_mem_take→L0,getElem?_set_self→L3,not_mem_nil→L4,filter_eq_nil_iff→L8,getElem?_range→Mb,filter_nil→Mh,getElem?_replicate→Mj,all_eq_true→Mm,sum_cons→Mo,append_assoc→Mt,length_pos_iff→Mv,length_set→Mw,getElem?_eq_none→MA,filter_congr→MT,pairwise_map→MU,dropLast_concat_getLast→MZ,filter_eq_self→M3,getElem_inj→Na,getElem_map→Nb,pairwise_cons→Nd,pairwise_iff_getElem→Ni,nodup_append→No,map_congr_left→Nx,nodup_nil→Nz,take_of_length_le→NF,pairwise_lt_range→NG,find?_cons→NM,length_nil→NN,foldl_cons→NO,any_cons→NS,foldl_append→NV,getElem?_append_right→N3,isEmpty_nil→N9,isEmpty_eq_false_iff→Od,filter_map→Oj,mem_replicate→Os,lookup→Ot,getElem?_cons_zero→Ov,getElem?_cons_succ→Ow,map_nil→OE,length_drop→OK,any_eq_true→OM,nodup_range→OP,all_cons→OR,nil_append→O0,filterMap_cons→O2,sum_nil→O9,getElem_range→Pm,length_eraseIdx_of_lt→Po,filter_filter→Pu,map_id→PF,getElem_take→PH,ext_getElem→P9,cons_append→Qf,sublist_nil→Qg,range_succ_eq_map→Qs,all_map→Qt,map_set→Qv,of_mem_zip→Qx,contains_iff_mem→QH,getElem?_of_mem→Q0,Perm→Q5,replicate_succ→Ra,map_eq_nil_iff→Rb,mem_filterMap→Ro,map_replicate→Rz,take_sublist→RI,flatten_cons→Sb,ext_getElem?→Sd,filter_cons→So,take_zero→S2,foldl→S3,range_add→Tb,map→Tc,Pairwise→Te
open Nat renaming le_refl→Kb,lt_of_lt_of_le→Ky,zero_le→KJ,ne_of_lt→KM,le_trans→K5,lt_of_le_of_lt→K9,pow_le_pow_right→Li,lt_succ_of_lt→LI,lt_succ_self→MC,lt_irrefl→MG,le_of_lt→MI,dvd_refl→MN,mul_le_mul_right→MQ,le_succ→Nm,ne_of_gt→NC,lt_trans→N8,mul_le_mul→Pk,le_of_eq→Qm,pow_add→QQ,mul_le_mul_left→Q9,mul_assoc→Rh,le_of_dvd→Ri,mul_succ→R6,succ_le_succ→Sq,min_eq_left→SI
open Ne renaming symm→M5
open Option renaming map_eq_some_iff→LR,isSome_iff_exists→PR,getD_none→P5,map_map→QX,isSome_map→RS
open Option.some renaming inj→Lu,injEq→RY
open Or renaming inr→KR,inl→KW
open Prod renaming ext→TB
open Prod.mk renaming injEq→Tg
open Pure renaming pure→Mz
open PyProof.Rows renaming callWith_type1→Mn,step_dedup→ME,IntsAre→Nf,boot_isinstance→Nk,slot_tuple_getitem→Nv,boot_tuple→NJ,AllBare→OQ,assignInOrder_cons→Pd,subscriptTail_builtinR→Qq,envOfC→QN,subscriptTail→Rf,assignInOrder_nil→RC,firstMet→RW,boot_sorted→SD,boot_range→SN,Subscript_→SV,seqObj→S9,boot_list→Tt,IsTup→Tz
open PyProof.Rows.F renaming plain_set_update_loop→M4,entry_set_update_loop→Oe
open PyProof.Rows.IntsAre renaming length→QY
open PyProof.Rows.IsTup renaming new→To
open PySem renaming wpAny_bind→J8,Shared→Ka,FuncData→Kh,Heap→Kp,starEach→Kr,PyData→Kv,wpAny→Kz,model→KF,mainGlobals→KO,Program→KZ,Str→K1,Around→K3,Expr→Le,PassesOwn→Lh,World→Lk,Builtin→Ll,wpAny_newObj_type→LA,compareOp→LB,boot_len→LM,wpAny_call_entry→LV,Obj→LY,wpAny_truthy_bool→Mc,wpAny_callSpecial?_slot→Ml,assignEach→Mq,bootBuiltins→MH,attributeBase→MJ,sizeLine_eq→MO,backTo→MW,wpAny_mono→MX,wpAny_passesOwn→Nj,foldedSetIterable→Nl,wpAny_setState_of→Np,behindInMarks→Nr,mem_of_lookup→Nw,wpAny_setEntries_of→Ny,keywordEach→NA,sysModules→NB,binaryOp→NK,codeAny_builtin→NP,swapsWith→NQ,Pos→NW,wpAny_setField→N5,Scope→Oa,wpAny_Call_Name_kw→On,tupleKind_room_in1→Op,sliceBounds→Ou,sizeLine→Ox,hashInt→Oy,wpAny_pyIter_list→Oz,codeAny→OB,codeAny_mono→OC,pyNext→OI,wpAny_isInstance→OL,wpAny_attempt→OS,backToKw→OU,compEnvC→OV,wpAny_execs_nil→OX,letOwnedTupleGo→OY,getItem→O4,Keyword→O6,pickOrder→Pb,wpAny_pyIter_tuple→Pe,wpAny_fieldsOf→Pq,firstArgMember→Pr,subscripted→Py,wpAny_pyIter_slot→PD,assign→PM,wpAny_standAt→PN,swapsWithSole→PP,swappedStores→PQ,wpAny_comprehension_free→PU,plainId_quiet→PX,tupleKind→P1,getMethod→P3,NameKind→P4,relayAll→Qa,wpAny_askSetting→Qb,intKind→Qi,Within→Qj,standAt→Ql,BindsTo→Qo,wpAny_isTrue_Compare1→Qz,builtinLookup_eq_fast→QD,wpAny_loadName_local→QK,Operator→QL,rawInt→QM,wpAny_field→QP,isSubtype_stop→QU,entryFor_alias→QV,wpAny_runValue→QZ,DictEntry→Q2,callerA→Q3,valueAt→Q4,setNext→Q6,wpAny_loadName_cell→Q7,assignInOrder→Re,wpAny_rule→Rn,IsPart→Rq,call_meets→Rr,closureFor→Rt,setItem→RA,wpAny_assign_Name→RB,bindArgs→RG,callWith→RH,wpAny_typeOf→RK,seqIndex_neg→RL,slot_list_getitem→RM,wpAny_pyIter_enum→RQ,wpAny_Call_method→RT,wpAny_storeSet_of→R1,slotArgs→R3,wpAny_setEpoch_of→R4,wpAny_pyIter_dict→R5,wpAny_eqBool_int→Se,wpAny_execs_cons→Sf,pyIter→Sg,lastMarks→Si,Code→Sk,CmpOp→Su,seqIndex_of→Sx,atKey→Sz,wpAny_of_eq→SB,builtinsNs→SJ,Env→SK,wpAny_Name→SL,bindName→SM,Result→SQ,wpAny_call→SR,bindL→SS,bindC→SU,typeIs_int→SW,call→SX,IsPair→SZ,entryFor→S7,intKind_is→S8,storeName→Tj,inplaceOp→Tk,cellsFrom→Tq,seqIndex?→Tr,drawOrder→Ts,release→Tu,operate→Tv,layNew→Tw,Tok→Tx,Data→TC
open PySem.Around renaming under_plainId→Nq,under→Qn
open PySem.Builtin.Int renaming intBits→Q8
open PySem.Builtin.List renaming listExtendWith→O8,listSameRef→PY
open PySem.Builtin.Range renaming rangeSize→P2
open PySem.Builtin.Slice renaming slicePlaces→Nh,sliceAdjust→Ob,sliceApplied→Pi
open PySem.Builtin.Tuple renaming tupleExact→Nt
open PySem.Code renaming isFrame→RF
open PySem.Data renaming fields→Sv,cell→Tp
open PySem.F renaming plainAttrs_list→Lr,slot_list_append→Ly,type_list_append→Lz,called_set→Mi,slot_dict_itemiterator_iter→Of,slot_dict_get→OH,args_dict_get_3→P6,plainAttrs_dict→P7,slot_dict_items→P8,plain_list_iadd→Qc,slot_list_count→Qd,entry_dict_get→Qr,plain_set_new→QC,slot_set_iter→QF
open PySem.Flow renaming next→Tn
open PySem.Heap renaming get?_push_of_some→Kd,get?_push_size→Kq,lt_size→Kx,SameBut→LH,get?_update_self→LX,size_push→MP,get?_update_other→NE,get?_none_of_le→OT
open PySem.Heap.SameBut renaming update→Ma
open PySem.Obj renaming mapSeq→N4,putSet→Pp,mapFields→Ti
open PySem.PassesOwn renaming never→KD
open PySem.PyData renaming eqv→LD,int→LS,depthAll→Ol,list→OW,eqvAll→PZ,canLayAll0→RU,none→SC
open PySem.SeqAt renaming EqAt→LQ
open PySem.SeqAt.EqAt renaming int_str→Rk,str_int→Rm
open PySem.Str renaming ofString→ND
open PySem.Value renaming ref→K7,int→Mf,type→Mp,none→NX,bool→Om,str→P0,isInt→QJ,float→Ss,isStrOf→Td
open PySem.W renaming Frag→J5,findIn→Lp,kia_one→LK,emptyDict→Md,fnOf→Mg,keepIn→Mr,instObj→MV,kitOne→NZ,hasDictIn→OA,codeIn→OD,plainGet→OJ,plainGet_of→O3,isFn→O5,lookIn→Pg,callWith_K→Ph,methodObj→Px,specialIn→Pz,kitx_list→PB,cellsFrom_some→Qp,takerIn→Qw,methodCall_KW→QB,kitx_tuple→Rp,plainOver→RD,kitx_dict→RE,handedIn→Sj,makesIn→SE,takesIn→SF,OpenLaw→SG,typeIn→SO,kitAny→SY,WalkO→Tf
open PySem.pickOrder renaming go→RZ
open Rat renaming intCast_mul→KL,mul_lt_mul_of_pos_right→Lx,mul_le_mul_of_nonneg_left→LP,intCast_lt_intCast→L7,intCast_natCast→Mu,mul_le_mul_of_nonneg_right→MD,le_refl→MR,natCast_pos→M0,le_of_lt→M7,natCast_le_natCast→NH,intCast_le_intCast→NI,intCast_inj→Oh,intCast_add→Oi,not_lt→Oq,zero_mul→OG,not_le→ON,le_antisymm→O1,mul_zero→Pa,lt_div_iff→Pt,mul_add→PJ,natCast_add→Qy,le_trans→Sa,div_def→SA,intCast_sub→SH
open Sum renaming inl→KN,inr→Qh
open True renaming intro→MB
local macro_rules
 | `(Z)=>`(rfl)
theorem yA:1≤Ox:=by decide
theorem gI:2≤Ox:=by decide
theorem Ir:3≤Ox:=by decide
theorem Iq:5≤Ox:=by decide
theorem Ip:6≤Ox:=by decide
namespace L2
open PySem PySem.Spec PyProof.Rows
abbrev cv:=Sum Int K1
def kj:cv->Value->Bool
 | .inl k,v=>QJ k v
 | .inr x,v=>Td x v
def Gw(w:Lk):cv->Int
 | .inl k=>Oy k
 | .inr x=>hashStr w x
theorem bV:∀{k:cv} {v:Value},kj k v=true->(∃i t,k=KN i/\v=Mf i t)∨(∃x t,k=Qh x/\v=P0 x t)
 | .inl i,v,h=>by
  obtain⟨t,e⟩:=Value.isInt_shape (k:=i) (v:=v) h;exact .inl ⟨i,t,Z,e⟩
 | .inr x,v,h=>by
  obtain⟨t,e⟩:=Value.isStrOf_shape (x:=x) (v:=v) h;exact .inr ⟨x,t,Z,e⟩
theorem tS(i:Int)(t:Tx):kj (.inl i) (.int i t)=true:=by simp[kj,QJ]
theorem tQ(x:K1)(t:Tx):kj (.inr x) (.str x t)=true:=by simp[kj,Td]
theorem CU(a b:Int):decide ((KN a:cv)=KN b)=(a==b):=by
 by_cases e:a=b
 ·subst e;simp
 ·have h:¬(KN a:cv)=KN b:=λq=>e (KN.inj q)
  rw[decide_eq_false h];exact(beq_eq_false_iff_ne.mpr e).symm
theorem CQ(a b:K1):decide ((Qh a:cv)=Qh b)=decide (a=b):=by
 by_cases e:a=b
 ·subst e;simp
 ·have h:¬(Qh a:cv)=Qh b:=λq=>e (Qh.inj q)
  rw[decide_eq_false h,decide_eq_false e]
theorem CT(a:Int)(b:K1):decide ((KN a:cv)=Qh b)=false:=decide_eq_false (λq=>nomatch q)
theorem CS(a:K1)(b:Int):decide ((Qh a:cv)=KN b)=false:=decide_eq_false (λq=>nomatch q)
def bD(prog:KZ)(w:Lk):PySem.KeyKind prog w cv where
 is:=kj
 hash:=Gw w
 inj:=λv a b ha hb=>by
  rcases bV ha with⟨i,t,rfl,rfl⟩ | ⟨x,t,rfl,rfl⟩
  ·rcases bV hb with⟨j,u,rfl,e⟩ | ⟨y,u,rfl,e⟩
   ·injection e with e1 _;rw[e1]
   ·exact nomatch e
  ·rcases bV hb with⟨j,u,rfl,e⟩ | ⟨y,u,rfl,e⟩
   ·exact nomatch e
   ·injection e with e1 _;rw[e1]
 byValue:=λk v h=>by
  rcases bV h with⟨i,t,rfl,rfl⟩ | ⟨x,t,rfl,rfl⟩<;>rfl
 pyHash:=λhv h=>by
  rcases bV hv with⟨i,t,rfl,rfl⟩ | ⟨x,t,rfl,rfl⟩
  ·exact wpAny_pyHash_int h
  ·exact wpAny_pyHash_str h
 eqBool:=λhu hv h=>by
  rcases bV hu with⟨i,t,rfl,rfl⟩ | ⟨x,t,rfl,rfl⟩
  ·rcases bV hv with⟨j,u,rfl,rfl⟩ | ⟨y,u,rfl,rfl⟩
   ·rw[CU] at h;exact Se h
   ·rw[CT] at h;exact Rk i t y u _ _ _ _ h
  ·rcases bV hv with⟨j,u,rfl,rfl⟩ | ⟨y,u,rfl,rfl⟩
   ·rw[CS] at h;exact Rm x t j u _ _ _ _ h
   ·rw[CQ] at h;exact wpAny_eqBool_str h
 «strs»:=λk x t v h=>by
  rcases bV h with⟨i,u,rfl,e⟩ | ⟨y,u,rfl,e⟩
  ·exact nomatch e
  ·injection e with e1 _;subst e1
   cases v<;>rfl
theorem oK(prog:KZ)(w:Lk)(i:Int)(t:Tx):(bD prog w).is (.inl i) (.int i t)=true:=tS i t
theorem oJ(prog:KZ)(w:Lk)(x:K1)(t:Tx):(bD prog w).is (.inr x) (.str x t)=true:=tQ x t
end L2
namespace L2
open PySem PySem.Spec PyProof.Rows
inductive V where
 |non|bl (b:Bool)|int (i:Int)|str (x:K1)|byt (b:Array UInt8)|flt (b:UInt64)|ref (a:Addr)|ty (n:String)
 deriving DecidableEq
def aY:V->Value->Prop
 | .non,u=>u=NX
 | .bl b,u=>u=Om b
 | .int i,u=>∃t,u=Mf i t
 | .str x,u=>∃t,u=P0 x t
 | .byt b,u=>∃t,u=Value.bytes b t
 | .flt b,u=>∃t,u=Ss b t
 | .ref a,u=>u=K7 a
 | .ty n,u=>u=Mp n
abbrev aZ:List V->List Value->Prop:=Paired aY
theorem aZ.length(r:aZ xs us):xs.length=us.length:=Paired.length r
theorem aZ.get:∀{xs:List V} {us:List Value} {i:Nat} {x:V},aZ xs us->xs[i]?=some x->∃u,us[i]?=some u/\aY x u
 |_,_,_,_,.nil,e=>by simp at e
 |_,_,0,_,.cons r _,e=>by simp at e;subst e;exact⟨_,Z,r⟩
 |_,_,i+1,x,.cons _ t,e=>by
  obtain⟨u,h1,h2⟩:=aZ.get (i:=i) (x:=x) t (by simpa using e);exact⟨u,by simpa using h1,h2⟩
theorem aZ.set{x:V}{u:Value}(r:aY x u):∀{xs:List V} {us:List Value} (i:Nat),aZ xs us->aZ (xs.set i x) (us.set i u)
 |_,_,_,.nil=>.nil
 |_,_,0,.cons _ t=>.cons r t
 |_,_,i+1,.cons q t=>.cons q (aZ.set r i t)
theorem aZ.append:∀{xs ys:List V} {us ws:List Value},aZ xs us->aZ ys ws->aZ (xs++ys) (us++ws)
 |_,_,_,_,.nil,s=>s
 |_,_,_,_,.cons r t,s=>.cons r (aZ.append t s)
theorem aZ.take:∀{xs:List V} {us:List Value} (n:Nat),aZ xs us->aZ (xs.take n) (us.take n)
 |_,_,0,_=>.nil
 |_,_,_+1,.nil=>.nil
 |_,_,n+1,.cons r t=>.cons r (aZ.take n t)
theorem aZ.drop:∀{xs:List V} {us:List Value} (n:Nat),aZ xs us->aZ (xs.drop n) (us.drop n)
 |_,_,0,r=>r
 |_,_,_+1,.nil=>.nil
 |_,_,n+1,.cons _ t=>aZ.drop n t
def fT:Option V->Option Value->Prop
 |some v,some u=>aY v u
 |none,none=>True
 |_,_=>False
def KV{κ:Type}:List (κ×V)->List (κ×Value)->Prop:=Paired λ(p:κ×V) (q:κ×Value)=>p.1=q.1/\aY p.2 q.2
def kV:cv->V
 | .inl i=>.int i
 | .inr x=>.str x
inductive HO where
 |lst (xs:List V)
 |tup (xs:List V)
 |dK (kvs:List (cv×V))|dT (kvs:List (List cv×V))
 |set (S:Int->Bool) (n:Nat)
 |ins (C dx:Addr) (fs:List (K1×V))
 |own (x:Addr)
 |xd (fs:List (K1×V))
 |met (f x:Addr)
 |rng (lo hi:Int)
 |frz (o:LY) (u:HO)
 |tbl (ps:Array Value)
 |ext (φ:Kp->Prop)
abbrev Hp:=Addr->Option HO
def av(H:Hp)(a:Addr)(o:HO):Hp:=λb=>if b=a then some o else H b
theorem zqd:av H a o a=some o:=by unfold av;rw[if_pos Z]
theorem ak(h:b≠a):av H a o b=H b:=by unfold av;rw[if_neg h]
theorem EM{H:Hp}{a b:Addr}{o u:HO}(h:H a=some o)(h':H b=some u)(d:o≠u):a≠b:=by
 intro e;subst e;rw[h] at h';exact d (Lu h')
theorem aB{H:Hp}{a b:Addr}{o:HO}(h:H a=some o)(h':H b=none):a≠b:=by
 intro e;subst e;rw[h] at h';cases h'
section
variable (P:KZ) (w:Lk)
def bo(H:Hp)(h:Kp)(a:Addr):HO->Prop
 | .lst xs=>xs.length≤sizeLine/\∃(its:List Value) (n:Nat),aZ xs its/\h.get? a=some { cls:=.type "list",data:=.seq its.toArray n}
 | .tup xs=>xs.length≤sizeLine/\∃its:List Value,aZ xs its/\Tz h a its.toArray
 | .dK kvs=>kvs.length≤sizeLine/\(a==NB)=false/\∃vs,KV kvs vs/\h.DictOf (bD P w) a vs
 | .dT kvs=>kvs.length≤sizeLine/\(a==NB)=false/\∃xs:List (List cv×Addr×Value),
   Paired (λ(p:List cv×V) (q:List cv×Addr×Value)=>p.1=q.1/\H q.2.1=some (.tup (p.1.map kV))/\aY p.2 q.2.2) kvs xs∧
   ∃o es ep,h.get? a=some o/\o.ExactDict/\o.data=.dict es ep/\es.toList=xs.map (entryOfKey (P1 (bD P w)))/\(xs.map (·.1)).Nodup
 | .set S n=>h.SetOf (Qi P w) a S n
 | .ins C dx fs=>H dx=some (.own a)/\fs.length≤1000/\dx≠a/\h.get? a=some (MV C dx)∧
   ∃mA,h.Ns1 dx mA/\(∀f,fT (fs.lookup f) (mA f))/\Qj mA (fs.map (·.1))
 | .own _=>∃o,h.get? a=some o
 | .xd fs=>∃mA,h.Ns1 a mA/\∀f,fT (fs.lookup f) (mA f)
 | .rng lo hi=>∃t u v,h.get? a=some { cls:=.type "range",data:=.fields #[.int lo t,.int hi u,.int 1 v]}
 | .frz o u=>h.get? a=some o/\bo H h a u
 | .tbl ps=>h.get? a=some { cls:=.none,data:=.fields ps}
 | .met f x=>h.get? a=some (Px (.ref f) (.ref x))
 | .ext φ=>φ h/\(∃o,h.get? a=some o)/\∀h1 h2:Kp,φ h1->(∀o,h1.get? a=some o->h2.get? a=some o)->φ h2
def gS(H:Hp)(h:Kp):Prop:=∀a o,H a=some o->bo P w H h a o
end
section
variable {P:KZ}{w:Lk}{H H':Hp}{h h':Kp}{a:Addr}{o:HO}
theorem bo.lt(x:bo P w H h a o):a<h.objs.size:=by
 cases o with
 |lst xs=>obtain⟨_,_,_,_,e⟩:=x;exact Kx e
 |tup xs=>obtain⟨_,_,_,p⟩:=x;exact p.lt
 |dK kvs=>obtain⟨_,_,_,_,o,_,_,e,_⟩:=x;exact Kx e
 |dT kvs=>obtain⟨_,_,_,_,o,_,_,e,_⟩:=x;exact Kx e
 |set S n=>obtain⟨o,_,_,_,e,_⟩:=x;exact Kx e
 |ins C dx fs=>obtain⟨_,_,_,e,_⟩:=x;exact Kx e
 |own y=>obtain⟨_,e⟩:=x;exact Kx e
 |xd fs=>obtain⟨_,⟨_,_,_,e,_⟩,_⟩:=x;exact Kx e
 |rng lo hi=>obtain⟨_,_,_,e⟩:=x;exact Kx e
 |frz ob u=>obtain⟨e,_⟩:=x;exact Kx e
 |tbl ps=>exact Kx (show h.get? a=some _ from x)
 |met f y=>exact Kx (show h.get? a=some _ from x)
 |ext φ=>obtain⟨_,⟨_,e⟩,_⟩:=x;exact Kx e
theorem Paired.mapP{α β:Type}{F G:α->β->Prop}:∀{l₁:List α} {l₂:List β},Paired F l₁ l₂->(∀a b,F a b->G a b)->Paired G l₁ l₂
 |_,_,.nil,_=>.nil
 |_,_,.cons r t,f=>.cons (f _ _ r) (Paired.mapP t f)
theorem bo.stay(x:bo P w H h a o)(k:∀b u,(b=a∨H b=some (.own a))->h.get? b=some u->h'.get? b=some u)
  (ho:∀b,H b=some (.own a)->H' b=some (.own a)) (ht:∀b xs,H b=some (.tup xs)->H' b=some (.tup xs)):bo P w H' h' a o:=by
 induction o with
 |lst xs=>obtain⟨z,its,n,r,e⟩:=x;exact⟨z,its,n,r,k _ _ (.inl Z) e⟩
 |tup xs=>obtain⟨z,its,r,ob,e,c⟩:=x;exact⟨z,its,r,ob,k _ _ (.inl Z) e,c⟩
 |dK kvs=>obtain⟨z,y,vs,r,ob,es,ep,e,c⟩:=x;exact⟨z,y,vs,r,ob,es,ep,k _ _ (.inl Z) e,c⟩
 |dT kvs=>
  obtain⟨z,y,xs,r,ob,es,ep,e,c⟩:=x;exact⟨z,y,xs,Paired.mapP r λp q z=>⟨z.1,ht _ _ z.2.1,z.2.2⟩,ob,es,ep,k _ _ (.inl Z) e,c⟩
 |set S n=>obtain⟨ob,es,ep,t,e,c⟩:=x;exact⟨ob,es,ep,t,k _ _ (.inl Z) e,c⟩
 |ins C dx fs=>
  obtain⟨d,z,ne,e,mA,⟨od,es,ep,e2,c⟩,r⟩:=x;exact⟨ho _ d,z,ne,k _ _ (.inl Z) e,mA,⟨od,es,ep,k _ _ (.inr d) e2,c⟩,r⟩
 |own y=>obtain⟨ob,e⟩:=x;exact⟨ob,k _ _ (.inl Z) e⟩
 |xd fs=>obtain⟨mA,⟨od,es,ep,e,c⟩,r⟩:=x;exact⟨mA,⟨od,es,ep,k _ _ (.inl Z) e,c⟩,r⟩
 |rng lo hi=>obtain⟨t,u,v,e⟩:=x;exact⟨t,u,v,k _ _ (.inl Z) e⟩
 |frz ob u ih=>obtain⟨e,q⟩:=x;exact⟨k _ _ (.inl Z) e,ih q⟩
 |tbl ps=>
  have e:h.get? a=some { cls:=.none,data:=.fields ps}:=x;show h'.get? a=some { cls:=.none,data:=.fields ps};exact k a _ (.inl Z) e
 |met f y=>
  have e:h.get? a=some (Px (.ref f) (.ref y)):=x;show h'.get? a=some (Px (.ref f) (.ref y));exact k a _ (.inl Z) e
 |ext φ=>obtain⟨p,⟨o,e⟩,st⟩:=x;exact⟨st _ _ p λo q=>k _ _ (.inl Z) q,⟨o,k _ _ (.inl Z) e⟩,st⟩
theorem gS.lt(x:gS P w H h)(e:H a=some o):a<h.objs.size:=(x a o e).lt
theorem gS.fresh(x:gS P w H h)(e:h.objs.size≤a):H a=none:=by
 cases q:H a with
 |none=>rfl
 |some u=>exact absurd (Ky (x.lt q) e) (MG _)
theorem gS.kept(x:gS P w H h)(k:∀b u,h.get? b=some u->h'.get? b=some u):gS P w H h':=λa o e=>
 (x a o e).stay (λb u _ q=>k b u q) (λ_ q=>q) λ_ _ q=>q
theorem gS.laid(x:gS P w H h)(k:∀b u,h.get? b=some u->h'.get? b=some u)(hp:h.objs.size≤a)(new:bo P w (av H a o) h' a o):gS P w (av H a o) h':=λb u e=>by
 have hn:=x.fresh hp;by_cases hb:b=a
 ·subst hb;rw[zqd] at e;cases e;exact new
 ·rw[ak hb] at e;exact(x b u e).stay (λc v _ q=>k c v q) (λc q=>by rw[ak (aB q hn)];exact q) λc xs q=>by rw[ak (aB q hn)];exact q
end
def Rd(H:Hp)(a:Addr)(u:HO):Prop:=H a=some u∨∃o,H a=some (.frz o u)
theorem Rd.ok(r:Rd H a u)(x:gS P w H h):bo P w H h a u:=by
 rcases r with r | ⟨o,r⟩
 ·exact x a u r
 ·obtain⟨_,q⟩:=x a _ r;exact q
def Fl:Option HO->Prop
 |some (.lst _)=>True
 |some (.dK _)=>True
 |some (.dT _)=>True
 |some (.set _ _)=>True
 |some (.ins _ _ _)=>True
 |some (.ext _)=>True
 |_=>False
section
variable {P:KZ}{w:Lk}{H:Hp}{h h':Kp}{x e:Addr}{o':HO}
theorem gS.write(ok:gS P w H h)(mu:Fl (H x))(he:e=x∨H e=some (.own x))(k:∀b u,b≠e->h.get? b=some u->h'.get? b=some u)(heo:∃u,h'.get? e=some u)
  (new:bo P w (av H x o') h' x o'):gS P w (av H x o') h':=λb u q=>by
 have nown:∀c y,H c=some (.own y)->c≠x:=λc y r z=>by subst z;rw[r] at mu;exact mu
 have ntup:∀c xs,H c=some (.tup xs)->c≠x:=λc xs r z=>by subst z;rw[r] at mu;exact mu
 by_cases hb:b=x
 ·subst hb;rw[zqd] at q;cases q;exact new
 ·rw[ak hb] at q;by_cases hbe:b=e
  ·have q':H b=some (.own x):=by
    rcases he with z|z
    ·exact absurd (hbe.trans z) hb
    ·rw[hbe];exact z
   rw[q] at q';cases q';obtain⟨v,hv⟩:=heo;exact⟨v,by rw[hbe];exact hv⟩
  ·refine(ok b u q).stay (λc v hc r=>k c v ?_ r) (λc r=>by rw[ak (nown c b r)];exact r) λc xs r=>by rw[ak (ntup c xs r)];exact r
   rcases hc with rfl|hc
   ·exact hbe
   ·rintro rfl;rcases he with z|z
    ·exact nown c b hc z
    ·rw[hc] at z;cases z;exact hb Z
end
structure Un(fs ex:List Addr)(H H':Hp)(h h':Kp):Prop where
 keep:∀b o,h.get? b=some o->H b=none->b∉fs->b∉ex->h'.get? b=some o
 slot:∀b o,h.get? b=some o->H b=none->b∈fs->b∉ex->∃sl,h'.get? b=some { o with slots:=sl}
 free:∀b o,h.get? b=some o->H b=none->b∉ex->H' b=none
 there:∀b o,h.get? b=some o->b∉ex->∃o',h'.get? b=some o'
 tups:∀b xs,H b=some (.tup xs)->H' b=some (.tup xs)
 frzs:∀b o u,H b=some (.frz o u)->H' b=some (.frz o u)
 tbls:∀b ps,H b=some (.tbl ps)->∃more,H' b=some (.tbl (ps++more))
section
variable {fs fs' ex ex':List Addr}{H H1 H2:Hp}{h h1 h2 h':Kp}{a x e:Addr}{o:HO}
theorem Un.any(u:Un fs ex H H1 h h1)(q:h.get? b=some ob)(n:H b=none)(hx:b∉ex):∃sl,h1.get? b=some { ob with slots:=sl}:=by
 by_cases hb:b∈fs
 ·exact u.slot b ob q n hb hx
 ·exact⟨ob.slots,u.keep b ob q n hb hx⟩
theorem Un.kept(k:∀b u,h.get? b=some u->h'.get? b=some u):Un fs ex H H h h':=
 ⟨λb ob q _ _ _=>k b ob q,λb ob q _ _ _=>⟨ob.slots,k b ob q⟩,λ_ _ _ n _=>n,λb ob q _=>⟨ob,k b ob q⟩,λ_ _ q=>q,λ_ _ _ q=>q,λ_ ps q=>⟨#[],by rw[q];simp⟩⟩
theorem Un.refl:Un fs ex H H h h:=Un.kept λ_ _ q=>q
theorem Un.laid(k:∀b u,h.get? b=some u->h'.get? b=some u)(hp:h.objs.size≤a)(hn:H a=none):Un fs ex H (av H a o) h h' where
 keep:=λb u q _ _ _=>k b u q
 slot:=λb u q _ _ _=>⟨u.slots,k b u q⟩
 free:=λb u q n _=>by rw[ak (KM (Ky (Kx q) hp))];exact n
 there:=λb u q _=>⟨u,k b u q⟩
 tups:=λb xs q=>by rw[ak (aB q hn)];exact q
 frzs:=λb u xs q=>by rw[ak (aB q hn)];exact q
 tbls:=λb ps q=>⟨#[],by rw[ak (aB q hn),q];simp⟩
theorem Un.write(mu:Fl (H x))(he:e=x∨H e=some (.own x))(k:∀b u,b≠e->h.get? b=some u->h'.get? b=some u)(heo:∃u,h'.get? e=some u):Un fs ex H (av H x o) h h':=by
 have hx:∀b,H b=none->b≠x:=λb n z=>by subst z;rw[n] at mu;exact mu
 have hb:∀b,H b=none->b≠e:=λb n z=>by
  subst z;rcases he with r|r
  ·exact hx b n r
  ·rw[n] at r;cases r
 have hm:∀b u,H b=some u->¬Fl (some u)->b≠x:=λb u q nm z=>by subst z;rw[q] at mu;exact nm mu
 refine⟨λb u q n _ _=>k b u (hb b n) q,λb u q n _ _=>⟨u.slots,k b u (hb b n) q⟩,λb u q n _=>by rw[ak (hx b n)];exact n,λb u q _=>?_,
  λb xs q=>by rw[ak (hm b _ q λz=>z)];exact q,λb u xs q=>by rw[ak (hm b _ q λz=>z)];exact q,λb ps q=>⟨#[],by rw[ak (hm b _ q λz=>z),q];simp⟩⟩
 by_cases hbe:b=e
 ·subst hbe;exact heo
 ·exact⟨u,k b u hbe q⟩
end
def Fr(h:Kp)(H:Hp):List Addr:=(J9 h.objs.size).filter λa=>(H a).isSome
def nA(h:Kp)(H:Hp):Kp:=PySem.W.hideAll h (Fr h H)
theorem tV(h:Kp)(H:Hp):(nA h H).objs.size=h.objs.size:=PySem.W.hideAll_size _ _
theorem xp(e:h.get? b=some o)(n:H b=none):(nA h H).get? b=some o:=
 PySem.W.hideAll_get _ e λhm=>by
  have q:(H b).isSome=true:=(Kl.mp hm).2;rw[n] at q;simp at q
theorem zN(e:(nA h H).get? b=some o):h.get? b=some o/\H b=none:=by
 have e':h.get? b=some o:=PySem.W.of_hideAll (Fr h H) e;refine⟨e',?_⟩
 cases q:H b with
 |none=>rfl
 |some x=>
  have hm:b∈Fr h H:=Kl.mpr ⟨Kk.mpr (Kx e'),by simp[q]⟩;have z:(nA h H).get? b=none:=PySem.W.hideAll_none (Fr h H) hm;rw[z] at e;cases e
def Aj(g h:Kp)(L:Addr):List (Addr×LY):=(J9 h.objs.size).filterMap λa=>if a=L∨(g.get? a).isSome=true then none else(h.get? a).map λo=>(a,o)
def rest(g h:Kp)(L d:Addr):List (Addr×LY):=(Aj g h L).filter λp=>decide (p.1≠d)
end L2
namespace L2
open PySem PySem.Spec PyProof.Rows
structure Mod(K:J5)(mg:K1->Option Value)(base:Kp):Prop where
 kin:K.In base
 glob:base.Ns KO mg
 blt:∃mb,base.Ns SJ mb/\∀x:K1,x ≠ "__name__"->mb x=MH x
 nolimit:base.NoLimit
structure Cx where
 prog:KZ
 w:Lk
 K:J5
 mg:K1->Option Value
 base:Kp
 A:K3
 N:List K1
 s₀:Ka
 H₀:Hp
 env:SK
 outer:List SK
 stack:List SK
 ex:List Addr
 fn:K1->Bool
 calm:Bool
 pn:List (Addr×LY)
 xe:Value->Ka->Prop
def rV(l:List SK):List Addr:=l.filterMap (·.frame)
abbrev Cx.fs(X:Cx):List Addr:=rV X.outer
def Fd(sc:Oa)(x:K1):Prop:=sc.names.lookup x=some .local∨sc.names.lookup x=some .cell∨sc.names.lookup x=some .free
def yq(sc:Oa)(x:K1):Prop:=sc.names.lookup x=some .local∨sc.names.lookup x=some .cell
def GJ(env:SK)(h:Kp)(m:K1->Option Value)(x:K1)(u:Value):Prop:=
 (env.kindOf x=some .local/\m x=some u)∨((env.kindOf x=some .cell∨env.kindOf x=some .free)/\∃c,env.cells.lookup x=some c/\h.IsCell c (some u))
structure Cx.Ok(X:Cx):Prop where
 mod:Mod X.K X.mg X.base
 kind:X.env.scope.kind=.function
 glob:X.env.globals=KO
 blt:X.env.builtins=SJ
 above:X.s₀.heap.objs.size≤X.env.locals
 inj:∀x y c,X.env.cells.lookup x=some c->X.env.cells.lookup y=some c->x=y
 has:∀x,(X.env.kindOf x=some .cell∨X.env.kindOf x=some .free)->∃c,X.env.cells.lookup x=some c
 cab:∀x c,X.fn x=true->X.env.cells.lookup x=some c->X.s₀.heap.objs.size≤c
 hd:X.calm=true->X.A.handled=none
 frames:X.A.frames=some X.stack
 stk:X.stack=X.outer∨(X.stack=X.env::X.outer/\X.env.frame=some X.env.locals)
 exf:∀b∈X.ex,b≠X.env.locals/\∀x c,X.env.cells.lookup x=some c->c≠b
 bs:∀b o,X.base.get? b=some o->X.s₀.heap.get? b=some o/\X.H₀ b=none
 bsz:X.base.objs.size≤X.s₀.heap.objs.size
 noex:∀b o,X.base.get? b=some o->b∉X.ex
 exfs:∀b∈X.ex,b∉X.fs
 funs:X.s₀.heap.FunFrames X.base X.outer
 frf:∀b∈X.fs,X.H₀ b=none
structure Inv(X:Cx)(pins:List (Addr×LY))(σ:List (Option V))(H:Hp)(s:Ka):Prop where
 ok:X.Ok
 os:s.os=X.s₀.os
 bare:OQ s.gens
 base:Un X.fs X.ex X.H₀ H X.s₀.heap s.heap
 loc:∃m,s.heap.Ns X.env.locals m/\∀(i:Nat) (x:K1) (v:V),X.N[i]?=some x->σ[i]?=some (some v)->Fd X.env.scope x->∃u,aY v u/\GJ X.env s.heap m x u
 cell:∀x c,X.env.cells.lookup x=some c->∃v,s.heap.IsCell c v
 free:H X.env.locals=none
 freeC:∀x c,X.env.cells.lookup x=some c->H c=none
 pin:∀p∈X.pn++pins,s.heap.get? p.1=some p.2/\H p.1=none/\p.1≠X.env.locals/\p.1∉X.fs/\∀v,p.2.data≠.cell v
 hok:gS X.prog X.w H s.heap
 len:σ.length=X.N.length
section
variable {X:Cx}{pins:List (Addr×LY)}{σ:List (Option V)}{H H':Hp}{s:Ka}{h':Kp}
theorem Cx.Ok.nofr(ok:X.Ok)(e:X.base.get? b=some o):b∉X.fs:=λhb=>by
 have:=(ok.funs.mem hb).1;rw[e] at this;cases this
theorem Inv.bs(I:Inv X pins σ H s):∀b o,X.base.get? b=some o->s.heap.get? b=some o/\H b=none:=λb o e=>
 ⟨I.base.keep b o (I.ok.bs b o e).1 (I.ok.bs b o e).2 (I.ok.nofr e) (I.ok.noex b o e),I.base.free b o (I.ok.bs b o e).1 (I.ok.bs b o e).2 (I.ok.noex b o e)⟩
theorem Inv.bk(I:Inv X pins σ H s):∀b o,X.base.get? b=some o->s.heap.get? b=some o:=λb o e=>(I.bs b o e).1
theorem Inv.mod(I:Inv X pins σ H s):Mod X.K X.mg X.base:=I.ok.mod
theorem Inv.kIn(I:Inv X pins σ H s):X.K.In s.heap:=I.ok.mod.kin.keeps I.bk
theorem Inv.lt(I:Inv X pins σ H s):X.env.locals<s.heap.objs.size:=let ⟨_,hn,_⟩:=I.loc;hn.lt
theorem Inv.sz(I:Inv X pins σ H s):X.s₀.heap.objs.size≤s.heap.objs.size:=K5 I.ok.above (MI I.lt)
theorem Inv.nofs(I:Inv X pins σ H s){a:Addr}(h:s.heap.objs.size≤a):a∉X.fs:=λhb=>by
 obtain⟨_,o,ho,_⟩:=I.ok.funs.mem hb;exact absurd (Ky (Kx ho) (K5 I.sz h)) (MG _)
theorem Inv.cne(I:Inv X pins σ H s):∀x c,X.env.cells.lookup x=some c->c≠X.env.locals:=λx c e z=>by
 obtain⟨v,o,ho,hd⟩:=I.cell x c e;obtain⟨m,⟨o',es,ep,ho',hd',_⟩,_⟩:=I.loc;rw[z,ho'] at ho;cases ho;rw[hd'] at hd;cases hd
theorem Inv.funs(I:Inv X pins σ H s):s.heap.FunFrames X.base X.outer:=by
 have all:∀(l:List SK),(∀b∈rV l,b∈X.fs)->X.s₀.heap.FunFrames X.base l->s.heap.FunFrames X.base l:=by
  intro l
  induction l with
  |nil=>intro _ _;trivial
  |cons env r ih=>
   intro hs hl;obtain⟨hk,⟨L,o,hf,hn,ho,hd⟩,hr⟩:=hl;have hL:L∈X.fs:=hs L (by unfold rV;rw[O2,hf];exact Kf);obtain⟨sl,e⟩:=I.base.slot L o ho (I.ok.frf L hL) hL λz=>I.ok.exfs L z hL
   exact⟨hk,⟨L,_,hf,hn,e,hd⟩,ih (λb hb=>hs b (by unfold rV;rw[O2,hf];exact Km _ hb)) hr⟩
 exact all X.outer (λ_ hb=>hb) I.ok.funs
theorem Inv.stack(I:Inv X pins σ H s):s.heap.FunFrames X.base X.stack:=by
 rcases I.ok.stk with e | ⟨e,hf⟩
 ·rw[e];exact I.funs
 ·rw[e];obtain⟨m,hn,_⟩:=I.loc;refine .cons (by rw[I.ok.kind];decide) hf hn ?_ I.funs;exact OT (K5 I.ok.bsz I.ok.above)
theorem Inv.stkSub(I:Inv X pins σ H s):∀b∈rV X.stack,b∈X.env.locals::X.fs:=λb hb=>by
 rcases I.ok.stk with e | ⟨e,hf⟩
 ·rw[e] at hb;exact Km _ hb
 ·rw[e] at hb;unfold rV at hb;rw[O2,hf] at hb;exact hb
theorem Inv.stkFree(I:Inv X pins σ H s):∀b∈rV X.stack,H b=none:=λb hb=>by
 rcases Kn.mp (I.stkSub b hb) with e|hb
 ·rw[e];exact I.free
 ·obtain⟨_,o,ho,_⟩:=I.ok.funs.mem hb;exact I.base.free b o ho (I.ok.frf b hb) λz=>I.ok.exfs b z hb
theorem Inv.step{ch:List Addr}(I:Inv X pins σ H s)
  (hch:∀b∈ch,(b∈X.ex∨X.s₀.heap.get? b=none)/\b≠X.env.locals/\(∀x c,X.env.cells.lookup x=some c->c≠b)/\∀p∈X.pn++pins,p.1≠b)
  (keep:∀b o,b≠X.env.locals->b∉X.fs->b∉ch->s.heap.get? b=some o->H b=none->h'.get? b=some o)
  (slot:∀b o,b≠X.env.locals->b∈X.fs->b∉ch->s.heap.get? b=some o->H b=none->∃sl,h'.get? b=some { o with slots:=sl}) (free:∀b o,b∉ch->s.heap.get? b=some o->H b=none->H' b=none)
  (there:∀b o,b∉ch->s.heap.get? b=some o->∃o',h'.get? b=some o')
  (tups:∀b xs,H b=some (.tup xs)->H' b=some (.tup xs)) (frzs:∀b o u,H b=some (.frz o u)->H' b=some (.frz o u)) (tbls:∀b ps,H b=some (.tbl ps)->∃more,H' b=some (.tbl (ps++more)))
  (ns:∀m,s.heap.Ns X.env.locals m->h'.Ns X.env.locals m) (hok:gS X.prog X.w H' h') (hg:OQ g'):
  Inv X pins σ H' { s with heap:=h',gens:=g',drawn:=d',toks:=t'}:=by
 have neL:∀b o,X.s₀.heap.get? b=some o->b≠X.env.locals:=λb o e=>KM (Ky (Kx e) I.ok.above)
 have neC:∀b o,X.s₀.heap.get? b=some o->b∉X.ex->b∉ch:=λb o e hx hb=>by
  rcases(hch b hb).1 with z|z
  ·exact hx z
  ·rw[e] at z;cases z
 have cellK:∀x c,X.env.cells.lookup x=some c->∀v,s.heap.IsCell c v->h'.IsCell c v:=λx c e v ⟨o,ho,hd⟩=>by
  have nch:c∉ch:=λz=>(hch c z).2.2.1 x c e Z
  by_cases hc:c∈X.fs
  ·obtain⟨sl,q⟩:=slot c o (I.cne x c e) hc nch ho (I.freeC x c e);exact⟨_,q,hd⟩
  ·exact⟨o,keep c o (I.cne x c e) hc nch ho (I.freeC x c e),hd⟩
 refine⟨I.ok,I.os,hg,⟨λb o e n hb hx=>?_,λb o e n hb hx=>?_,λb o e n hx=>?_,λb o e hx=>?_,λb xs e=>tups b xs (I.base.tups b xs e),λb o xs e=>frzs b o xs (I.base.frzs b o xs e),λb ps e=>?_⟩,?_,λx c e=>?_,?_,λx c e=>?_,λp hp=>?_,hok,I.len⟩
 ·exact keep b o (neL b o e) hb (neC b o e hx) (I.base.keep b o e n hb hx) (I.base.free b o e n hx)
 ·obtain⟨sl,e1⟩:=I.base.slot b o e n hb hx;obtain⟨sl',e2⟩:=slot b _ (neL b o e) hb (neC b o e hx) e1 (I.base.free b o e n hx);exact⟨sl',e2⟩
 ·obtain⟨o',e1⟩:=I.base.there b o e hx;exact free b o' (neC b o e hx) e1 (I.base.free b o e n hx)
 ·obtain⟨o',e1⟩:=I.base.there b o e hx;exact there b o' (neC b o e hx) e1
 ·obtain⟨m1,e1⟩:=I.base.tbls b ps e;obtain⟨m2,e2⟩:=tbls b _ e1;exact⟨m1++m2,by rw[e2,Array.append_assoc]⟩
 ·obtain⟨m,hn,hl⟩:=I.loc;refine⟨m,ns m hn,λi x v e1 e2 e3=>?_⟩;obtain⟨u,r,l⟩:=hl i x v e1 e2 e3;refine⟨u,r,?_⟩;rcases l with l | ⟨k,c,e,z⟩
  ·exact .inl l
  ·exact .inr ⟨k,c,e,cellK x c e _ z⟩
 ·obtain⟨v,z⟩:=I.cell x c e;exact⟨v,cellK x c e v z⟩
 ·obtain⟨m,⟨o,_,_,ho,_⟩,_⟩:=I.loc;exact free _ o (λz=>(hch _ z).2.1 Z) ho I.free
 ·obtain⟨v,o,ho,hd⟩:=I.cell x c e;exact free c o (λz=>(hch c z).2.2.1 x c e Z) ho (I.freeC x c e)
 ·obtain⟨e,n,ne,nf,d⟩:=I.pin p hp;have nch:p.1∉ch:=λz=>(hch p.1 z).2.2.2 p hp Z
  exact⟨keep p.1 p.2 ne nf nch e n,free p.1 p.2 nch e n,ne,nf,d⟩
theorem Inv.un(I:Inv X pins σ H s)(u:Un X.fs [] H H' s.heap h')(hok:gS X.prog X.w H' h'):Inv X pins σ H' { s with heap:=h',toks:=t'}:=by
 obtain⟨m,⟨o,es,ep,ho,r⟩,_⟩:=id I.loc;obtain⟨sl,hL⟩:=u.any ho I.free (by simp);exact I.step (g':=s.gens) (d':=s.drawn) (ch:=[]) (λ_ z=>nomatch z) (λb o _ hb _ e n=>u.keep b o e n hb (by simp)) (λb o _ hb _ e n=>u.slot b o e n hb (by simp)) (λb o _ e n=>u.free b o e n (by simp)) (λb o _ e=>u.there b o e (by simp)) u.tups u.frzs u.tbls (λm' hm=>by
  obtain⟨o',es',ep',ho',r'⟩:=hm;rw[ho] at ho';cases ho';exact⟨_,es',ep',hL,r'⟩) hok I.bare
theorem Inv.call(I:Inv X pins σ H s)(u:Un (rV X.stack) ch H H' s.heap h')(hok:gS X.prog X.w H' h')(hg:OQ g')
  (hch:∀b∈ch,(b∈X.ex∨X.s₀.heap.get? b=none)/\b≠X.env.locals/\(∀x c,X.env.cells.lookup x=some c->c≠b)/\∀p∈X.pn++pins,p.1≠b):
  Inv X pins σ H' { s with heap:=h',gens:=g',drawn:=d',toks:=t'}:=by
 obtain⟨m,⟨o,es,ep,ho,r⟩,_⟩:=id I.loc;obtain⟨sl,hL⟩:=u.any ho I.free λz=>(hch _ z).2.1 Z
 exact I.step (ch:=ch) hch (λb o hL hb hc e n=>u.keep b o e n (λz=>(Kn.mp (I.stkSub b z)).elim hL hb) hc) (λb o _ _ hc e n=>u.any e n hc) (λb o hc e n=>u.free b o e n hc) (λb o hc e=>u.there b o e hc) u.tups u.frzs u.tbls (λm' hm=>by
  obtain⟨o',es',ep',ho',r'⟩:=hm;rw[ho] at ho';cases ho';exact⟨_,es',ep',hL,r'⟩) hok hg
theorem Inv.turned(I:Inv X pins σ H s)(k:∀b o,b≠it->s.heap.get? b=some o->h'.get? b=some o)(hn:H it=none)(hL:it≠X.env.locals)
  (h1:it∈X.ex∨X.s₀.heap.get? it=none) (h2:∀x c,X.env.cells.lookup x=some c->c≠it) (h3:∀p∈X.pn++pins,p.1≠it):Inv X pins σ H { s with heap:=h',toks:=t'}:=by
 have nit:∀b u,H b=some u->b≠it:=λb u e z=>by rw[z,hn] at e;cases e
 refine I.step (g':=s.gens) (d':=s.drawn) (ch:=[it]) (λb hb=>?_) (λb o _ _ hc e _=>k b o (λz=>hc (by simp[z])) e) (λb o _ _ hc e _=>⟨o.slots,k b o (λz=>hc (by simp[z])) e⟩) (λ_ _ _ _ n=>n)
  (λb o hc e=>⟨o,k b o (λz=>hc (by simp[z])) e⟩) (λ_ _ e=>e) (λ_ _ _ e=>e) (λb ps e=>⟨#[],by rw[e];simp⟩) (λm hm=>?_) (λb u e=>?_) I.bare
 ·have e:b=it:=by simpa using hb
  subst e;exact⟨h1,hL,h2,h3⟩
 ·obtain⟨o,es,ep,ho,r⟩:=hm;exact⟨o,es,ep,k _ o (M5 hL) ho,r⟩
 ·refine(I.hok b u e).stay (λc v hc q=>k c v ?_ q) (λ_ q=>q) λ_ _ q=>q
  rcases hc with z|z
  ·rw[z];exact nit b u e
  ·exact nit c _ z
theorem Inv.tok(I:Inv X pins σ H s)(t:Nat):Inv X pins σ H { s with toks:=t}:=I.un (h':=s.heap) (t':=t) Un.refl I.hok
theorem Inv.kept(I:Inv X pins σ H s)(k:∀b u,s.heap.get? b=some u->h'.get? b=some u):Inv X pins σ H { s with heap:=h',toks:=t'}:=I.un (Un.kept k) (I.hok.kept k)
theorem Inv.laid{a:Addr}{o:HO}{t':Nat}(I:Inv X pins σ H s)(k:∀b u,s.heap.get? b=some u->h'.get? b=some u)(hp:s.heap.objs.size≤a)(new:bo X.prog X.w (av H a o) h' a o) :
  Inv X pins σ (av H a o) { s with heap:=h',toks:=t'}:=I.un (Un.laid k hp (I.hok.fresh hp)) (I.hok.laid k hp new)
theorem Inv.write(I:Inv X pins σ H s)(mu:Fl (H x))(he:e=x∨H e=some (.own x))(k:∀b u,b≠e->s.heap.get? b=some u->h'.get? b=some u)(heo:∃u,h'.get? e=some u)
  (new:bo X.prog X.w (av H x o) h' x o):Inv X pins σ (av H x o) { s with heap:=h',toks:=t'}:=I.un (Un.write mu he k heo) (I.hok.write mu he k heo new)
theorem Inv.weak(I:Inv X pins σ H s)(hl:σ'.length=σ.length)(w:∀(i:Nat) v,σ'[i]?=some (some v)->σ[i]?=some (some v)):Inv X pins σ' H s:=
 ⟨I.ok,I.os,I.bare,I.base,let ⟨m,hn,hl'⟩:=I.loc;⟨m,hn,λi x v e1 e2 e3=>hl' i x v e1 (w i v e2) e3⟩,I.cell,I.free,I.freeC,I.pin,I.hok,hl.trans I.len⟩
theorem Inv.pins_of(I:Inv X pins σ H s)(h:∀p∈pins',s.heap.get? p.1=some p.2/\H p.1=none/\p.1≠X.env.locals/\p.1∉X.fs/\∀v,p.2.data≠.cell v):Inv X pins' σ H s:=
 ⟨I.ok,I.os,I.bare,I.base,I.loc,I.cell,I.free,I.freeC,λp hp=>(KG.mp hp).elim (λz=>I.pin p (La _ z)) (h p),I.hok,I.len⟩
theorem oH{N:List K1}(hN:N.Nodup){i j:Nat}(a:N[i]?=some x)(b:N[j]?=some x):i=j:=by
 obtain⟨h1,e1⟩:=Kg.mp a;obtain⟨h2,e2⟩:=Kg.mp b;exact(Na hN).mp (e1.trans e2.symm)
theorem sW{M:Model}{A:K3}{E:Value->Ka->Prop}{i:Nat}{x:K1}{v:V}{u:Value}{Q:Unit->Ka->Prop}(I:Inv X pins σ H s)(hN:X.N.Nodup)(hi:X.N[i]?=some x)(hx:yq X.env.scope x)(r:aY v u)
  (h:∀s',Inv X pins (σ.set i (some v)) H s'->(∃a,LH a s.heap s'.heap/\(a=X.env.locals∨X.env.cells.lookup x=some a))->Q () s') (hf:X.fn x=true∨X.env.scope.names.lookup x=some .local:=by first|exact .inl Z|exact .inr Z|assumption):Kz M A (Tj X.env x u) Q E s:=by
 obtain⟨m,hn,hl⟩:=id I.loc;have hcls:(X.env.scope.kind==.class||(X.env.scope.kind==.module&&X.env.locals != X.env.globals))=false:=by rw[I.ok.kind];rfl
 have hiσ:i<σ.length:=by rw[I.len];exact(Kg.mp hi).1
 have cne:=I.cne;have tracked:∀{a:Addr} {h':Kp},(∃o,s.heap.get? a=some o/\H a=none)->LH a s.heap h'->gS X.prog X.w H h':=λ{a h'} ha hs b ob e=>by
  obtain⟨_,_,hfree⟩:=ha;refine(I.hok b ob e).stay (λc w' hc q=>(hs.2 c ?_).trans q) (λ_ q=>q) λ_ _ q=>q
  rintro rfl;rcases hc with rfl|hc
  ·rw[hfree] at e;cases e
  ·rw[hfree] at hc;cases hc
 rcases hx with hk|hk
 ·refine wpAny_storeName_local hk hn (λh' hn' hs=>?_) hcls;obtain⟨oL,_,_,hoL,_⟩:=id hn;refine h _ ⟨I.ok,I.os,I.bare,⟨λb o e n hb hx=>?_,λb o e n hb hx=>?_,I.base.free,λb o e hx=>?_,I.base.tups,I.base.frzs,I.base.tbls⟩,⟨_,hn',λj y v' e1 e2 e3=>?_⟩,λy c e=>?_,I.free,I.freeC,λp hp=>?_,tracked ⟨oL,hoL,I.free⟩ hs,by simpa using I.len⟩ ⟨_,hs,.inl Z⟩
  ·exact(hs.2 b (KM (Ky (Kx e) I.ok.above))).trans (I.base.keep b o e n hb hx)
  ·obtain⟨sl,e1⟩:=I.base.slot b o e n hb hx;exact⟨sl,(hs.2 b (KM (Ky (Kx e) I.ok.above))).trans e1⟩
  ·obtain⟨o',e1⟩:=I.base.there b o e hx;exact⟨o',(hs.2 b (KM (Ky (Kx e) I.ok.above))).trans e1⟩
  ·by_cases hj:j=i
   ·subst hj;rw[hi] at e1;cases e1;rw[L3 hiσ] at e2
    cases e2
    exact⟨u,r,.inl ⟨hk,by simp⟩⟩
   ·rw[LO (M5 hj)] at e2;obtain⟨u',r',q⟩:=hl j y v' e1 e2 e3;refine⟨u',r',?_⟩;rcases q with⟨k,e⟩ | ⟨k,c,e,z⟩
    ·refine .inl ⟨k,?_⟩;have:y≠x:=λe=>hj (oH hN e1 (e▸hi))
     simp[this,e]
    ·exact .inr ⟨k,c,e,z.sameBut hs (cne y c e)⟩
  ·obtain⟨w',z⟩:=I.cell y c e;exact⟨w',z.sameBut hs (cne y c e)⟩
  ·obtain⟨e,n,ne,nf,d⟩:=I.pin p hp;exact⟨(hs.2 p.1 ne).trans e,n,ne,nf,d⟩
 ·have hfn:X.fn x=true:=by
   rcases hf with z|z
   ·exact z
   ·rw[z] at hk;cases hk
  obtain⟨c,hc⟩:=I.ok.has x (.inl hk);obtain⟨w',z⟩:=I.cell x c hc;refine wpAny_storeName_cell I.ok.kind hk hc z (λh' hc' hs=>?_);obtain⟨oc,hoc,hocd⟩:=id z;refine h { s with heap:=h'} ⟨I.ok,I.os,I.bare,⟨λb o e n hb hx=>?_,λb o e n hb hx=>?_,I.base.free,λb o e hx=>?_,I.base.tups,I.base.frzs,I.base.tbls⟩,⟨m,hn.sameBut hs (M5 (cne x c hc)),λj y v' e1 e2 e3=>?_⟩,λy c' e=>?_,I.free,I.freeC,λp hp=>?_,tracked ⟨oc,hoc,I.freeC x c hc⟩ hs,by simpa using I.len⟩ ⟨c,hs,.inr hc⟩
  ·exact(hs.2 b (KM (Ky (Kx e) (I.ok.cab x c hfn hc)))).trans (I.base.keep b o e n hb hx)
  ·obtain⟨sl,e1⟩:=I.base.slot b o e n hb hx;exact⟨sl,(hs.2 b (KM (Ky (Kx e) (I.ok.cab x c hfn hc)))).trans e1⟩
  ·obtain⟨o',e1⟩:=I.base.there b o e hx;exact⟨o',(hs.2 b (KM (Ky (Kx e) (I.ok.cab x c hfn hc)))).trans e1⟩
  ·by_cases hj:j=i
   ·subst hj;rw[hi] at e1;cases e1;rw[L3 hiσ] at e2
    cases e2
    exact⟨u,r,.inr ⟨.inl hk,c,hc,hc'⟩⟩
   ·rw[LO (M5 hj)] at e2;obtain⟨u',r',q⟩:=hl j y v' e1 e2 e3;refine⟨u',r',?_⟩;rcases q with q | ⟨k,c',e,z'⟩
    ·exact .inl q
    ·refine .inr ⟨k,c',e,z'.sameBut hs ?_⟩;rintro rfl;exact hj (oH hN e1 (I.ok.inj _ _ _ e hc▸hi))
  ·by_cases hcc:c'=c
   ·subst hcc;exact⟨_,hc'⟩
   ·obtain⟨w2,z2⟩:=I.cell y c' e;exact⟨w2,z2.sameBut hs hcc⟩
  ·obtain⟨e,n,ne,nf,d⟩:=I.pin p hp;refine⟨(hs.2 p.1 ?_).trans e,n,ne,nf,d⟩;intro q;rw[q,hoc] at e;have q':oc=p.2:=Lu e;exact d w' (by rw[←q'];exact hocd)
theorem fA{M:Model}{A:K3}{E:Value->Ka->Prop}{i:Nat}{x:K1}{v:V}{u:Value}{Q:Unit->Ka->Prop}(I:Inv X pins σ H s)(hN:X.N.Nodup)(hi:X.N[i]?=some x)(hx:yq X.env.scope x)(r:aY v u)
  (h:∀s',Inv X pins (σ.set i (some v)) H s'->Q () s') (hf:X.fn x=true∨X.env.scope.names.lookup x=some .local:=by first|exact .inl Z|exact .inr Z|assumption):Kz M A (Tj X.env x u) Q E s:=
 sW I hN hi hx r (λs' I' _=>h s' I') hf
theorem Inv.call'(I:Inv X pins σ H s)(ho:s'.os=s.os)(u:Un (rV X.stack) ch H H' s.heap s'.heap)(hok:gS X.prog X.w H' s'.heap)(hg:OQ s'.gens)
  (hch:∀b∈ch,(b∈X.ex∨X.s₀.heap.get? b=none)/\b≠X.env.locals/\(∀x c,X.env.cells.lookup x=some c->c≠b)/\∀p∈X.pn++pins,p.1≠b):Inv X pins σ H' s':=by
 obtain⟨h',g',d',t',o'⟩:=s';have e:o'=s.os:=ho;subst e;exact I.call (g':=g') (t':=t') (d':=d') u hok hg hch
end
abbrev XK:=Value->Option Addr->Hp->Prop
abbrev St:=List (Option V)
abbrev VK:=V->Hp->Prop
abbrev TE:=St->Hp->VK->Prop
abbrev TT:=St->Hp->(Bool->Hp->Prop)->Prop
abbrev TA:=St->Hp->(List V->Hp->Prop)->Prop
structure js where
 nx:St->Hp->Prop
 rt:VK
 bk:St->Hp->Prop:=λ_ _=>False
 ct:St->Hp->Prop:=λ_ _=>False
abbrev TS:=js->St->Hp->Prop
def EP(X:Cx)(pins:List (Addr×LY))(σ:St)(Q:VK)(u:Value)(s':Ka):Prop:=∃v H',Inv X pins σ H' s'/\aY v u/\Q v H'
def TP(X:Cx)(pins:List (Addr×LY))(σ:St)(Q:Bool->Hp->Prop)(b:Bool)(s':Ka):Prop:=∃H',Inv X pins σ H' s'/\Q b H'
def AP(X:Cx)(pins:List (Addr×LY))(σ:St)(Q:List V->Hp->Prop)(us:List Value)(s':Ka):Prop:=∃vs H',Inv X pins σ H' s'/\aZ vs us/\Q vs H'
def SP(X:Cx)(pins:List (Addr×LY))(D:js)(f:Flow)(s':Ka):Prop:=
 match f with
 | .next=>∃σ' H',Inv X pins σ' H' s'/\D.nx σ' H'
 | .brk=>∃σ' H',Inv X pins σ' H' s'/\D.bk σ' H'
 | .cont=>∃σ' H',Inv X pins σ' H' s'/\D.ct σ' H'
 | .ret u=>∃v σ' H',Inv X pins σ' H' s'/\aY v u/\D.rt v H'
def PE(X:Cx)(e:Le)(t:TE):Prop:=
 ∀(pins:List (Addr×LY)) (s:Ka) (σ:St) (H:Hp) (Q:VK),Inv X pins σ H s->t σ H Q->Kz (KF X.prog X.w) X.A (eval e X.env) (EP X pins σ Q) X.xe s
def PT(X:Cx)(e:Le)(t:TT):Prop:=
 ∀(pins:List (Addr×LY)) (s:Ka) (σ:St) (H:Hp) (Q:Bool->Hp->Prop),Inv X pins σ H s->t σ H Q->Kz (KF X.prog X.w) X.A (isTrue e X.env (eval e X.env)) (TP X pins σ Q) X.xe s
def PW(X:Cx)(e:Le)(t:TT):Prop:=
 ∀(whole:Sem Value) (pins:List (Addr×LY)) (s:Ka) (σ:St) (H:Hp) (Q:Bool->Hp->Prop),Inv X pins σ H s->t σ H Q->Kz (KF X.prog X.w) X.A (isTrue e X.env whole) (TP X pins σ Q) X.xe s
theorem PW.pt(h:PW X e t):PT X e t:=h _
def PA(X:Cx)(es:List Le)(t:TA):Prop:=
 ∀(pos:NW) (pins:List (Addr×LY)) (s:Ka) (σ:St) (H:Hp) (Q:List V->Hp->Prop),Inv X pins σ H s->t σ H Q->Kz (KF X.prog X.w) X.A (spliced (MW pos (Kr es X.env))) (AP X pins σ Q) X.xe s
def PS(X:Cx)(st:Stmt)(t:TS):Prop:=
 ∀(pins:List (Addr×LY)) (s:Ka) (σ:St) (H:Hp) (D:js),Inv X pins σ H s->t D σ H->Kz (KF X.prog X.w) X.A (exec st X.env) (SP X pins D) X.xe s
def qT(X:Cx)(st:List Stmt)(t:TS):Prop:=
 ∀(pins:List (Addr×LY)) (s:Ka) (σ:St) (H:Hp) (D:js),Inv X pins σ H s->t D σ H->Kz (KF X.prog X.w) X.A (execs st X.env) (SP X pins D) X.xe s
theorem bJ{Q Q':α->Ka->Prop}{E:Value->Ka->Prop}(h:Kz M A t Q E s)(hQ:∀a s,Q a s->Q' a s):Kz M A t Q' E s:=MX h hQ λ_ _ x=>x
end L2
namespace L2
open PySem PySem.Spec PyProof.Rows
section
variable {X:Cx}
def A3(i:Nat):TE:=λσ H Q=>∃v,σ[i]?=some (some v)/\Q v H
def tC(v:V):TE:=λ_ H Q=>Q v H
theorem B5{i:Nat}{x:K1}{pos:NW}(hN:X.N[i]?=some x)(hv:Fd X.env.scope x)(hd:(x==("__debug__" : K1))=false:=by decide)(hcd:(x==("__classdict__" : K1))=false:=by decide):PE X (.Name x pos) (A3 i):=by
 intro pins s σ H Q I h;obtain⟨v,e,h⟩:=h;obtain⟨m,hn,hl⟩:=I.loc;obtain⟨u,r,l⟩:=hl i x v hN e hv;have fin:EP X pins σ Q u s:=⟨v,H,I,r,h⟩;rcases l with⟨hk,hm⟩ | ⟨hk,c,hc,hcell⟩
 ·exact SL (QK I.ok.kind hk hn hm fin) hd
 ·rcases hk with hk|hk
  ·exact SL (Q7 I.ok.kind hk hc hcell fin) hd
  ·exact SL (wpAny_loadName_free I.ok.kind hk hc hcell fin hcd) hd
theorem Cc{i j pos}:PE X (.Constant (.int i) j pos) (tC (.int i)):=λ_ _ _ H _ I h=>wpAny_Constant_int ⟨.int i,H,I.tok _,⟨_,Z⟩,h⟩
theorem Ez{b j pos}:PE X (.Constant (.bool b) j pos) (tC (.bl b)):=λ_ _ _ H _ I h=>Constant_bool ⟨.bl b,H,I,Z,h⟩
theorem Ca{j pos}:PE X (.Constant .none j pos) (tC .non):=λ_ _ _ H _ I h=>Constant_none ⟨.non,H,I,Z,h⟩
theorem B7{x j pos}:PE X (.Constant (.str x) j pos) (tC (.str x)):=λ_ _ _ H _ I h=>Calls.Constant_str ⟨.str x,H,I.tok _,⟨_,Z⟩,h⟩
def Gl(X:Cx)(x:K1):Prop:=X.env.kindOf x=some .globalImplicit
theorem nj{E:Value->Ka->Prop}{pins:List (Addr×LY)}{s:Ka}{σ:St}{H:Hp}{x:K1}{u:Value}{pos:NW}{Q:Value->Ka->Prop}(I:Inv X pins σ H s)(hg:Gl X x)(hm:X.mg x=some u)(h:Q u s)
  (hd:(x==("__debug__" : K1))=false:=by decide):Kz (KF X.prog X.w) X.A (eval (.Name x pos) X.env) Q E s:=
 Calls.Name_function_global I.ok.kind hg (Calls.loadGlobal_global (by rw[I.ok.glob];exact I.mod.glob.keeps I.bk) hm h) hd
theorem hX{E:Value->Ka->Prop}{pins:List (Addr×LY)}{s:Ka}{σ:St}{H:Hp}{x:K1}{u:Value}{pos:NW}{Q:Value->Ka->Prop}(I:Inv X pins σ H s)(hg:Gl X x)(hm:X.mg x=none)(hv:MH x=some u)(h:Q u s)
  (hn:x ≠ "__name__" := by decide) (hd:(x==("__debug__" : K1))=false:=by decide):Kz (KF X.prog X.w) X.A (eval (.Name x pos) X.env) Q E s:=by
 obtain⟨mb,h1,h2⟩:=I.mod.blt;exact Calls.Name_function_global I.ok.kind hg (Calls.loadGlobal_builtin (by rw[I.ok.glob];exact I.mod.glob.keeps I.bk) hm (by rw[I.ok.blt];exact h1.keeps I.bk) ((h2 x hn).trans hv) h) hd
theorem zr{x:K1}{v:V}{u:Value}{pos:NW}(hg:Gl X x)(hm:X.mg x=some u)(r:aY v u)(hd:(x==("__debug__" : K1))=false:=by decide):PE X (.Name x pos) (tC v):=
 λ_ _ _ H _ I h=>nj I hg hm ⟨v,H,I,r,h⟩ hd
theorem zx{x:K1}{v:V}{u:Value}{pos:NW}(hg:Gl X x)(hm:X.mg x=none)(hv:MH x=some u)(r:aY v u)(hn:x ≠ "__name__" := by decide)(hd:(x==("__debug__" : K1))=false:=by decide):PE X (.Name x pos) (tC v):=
 λ_ _ _ H _ I h=>hX I hg hm hv ⟨v,H,I,r,h⟩ hn hd
def Fw(ta tb:TE)(k:Int->Int->Hp->Prop):St->Hp->Prop:=λσ H=>ta σ H λx H1=>tb σ H1 λy H2=>∃i j,x=.int i/\y=.int j/\k i j H2
def IM(ta tb:TE):TE:=λσ H Q=>Fw ta tb (λi j H2=>Q (.int (i+j)) H2) σ H
def IC(ta tb:TE):TE:=λσ H Q=>Fw ta tb (λi j H2=>Q (.int (i-j)) H2) σ H
def IG(ta tb:TE):TE:=λσ H Q=>Fw ta tb (λi j H2=>(-(2^64)<i/\i<2^64)/\Q (.int (i*j)) H2) σ H
variable {a b:Le}{ta tb:TE}{pos:NW}
def PC(X:Cx)(op:Su)(a b:Le)(t:TE):Prop:=
 ∀(pins:List (Addr×LY)) (s:Ka) (σ:St) (H:Hp) (Q:VK),Inv X pins σ H s->t σ H Q→
  Kz (KF X.prog X.w) X.A (eval a X.env) (λv s₁=>Kz (KF X.prog X.w) X.A (eval b X.env) (λu s₂=>Kz (KF X.prog X.w) X.A (LB op v u) (EP X pins σ Q) X.xe s₂) X.xe s₁) X.xe s
def sV(p:Int->Int->Bool)(ta tb:TE):TE:=λσ H Q=>Fw ta tb (λi j H2=>Q (.bl (p i j)) H2) σ H
abbrev JH:TE->TE->TE:=sV λi j=>decide (i<j)
abbrev JI:TE->TE->TE:=sV λi j=>decide (i≤j)
abbrev JK:TE->TE->TE:=sV λi j=>decide (j<i)
abbrev JL:TE->TE->TE:=sV λi j=>decide (j≤i)
abbrev II:TE->TE->TE:=sV λi j=>decide (i=j)
abbrev IF:TE->TE->TE:=sV λi j=>!decide (i=j)
def IH(ta:TE):TE:=λσ H Q=>ta σ H λx H1=>Q (.bl (decide (x=.non))) H1
def G1(ta:TE):TE:=λσ H Q=>ta σ H λx H1=>Q (.bl (!decide (x=.non))) H1
def tB(t:TE):TT:=λσ H Q=>t σ H λx H1=>∃c,x=.bl c/\Q c H1
theorem BR{op:Su}{t:TE}(h:PC X op a b t)(h1:Nr op b=false:=by first|exact nobehind _ (by decide) (by decide)|rfl):PT X (.Compare a [op] [b] pos) (tB t):=by
 intro pins s σ H Q I hw;refine Qz (bJ (h pins s σ H _ I hw) λv s1 h1=>bJ h1 λu s2 h2=>bJ h2 λc s3 ⟨x,H1,I1,r1,q1⟩=>?_) h1;obtain⟨d,rfl,q⟩:=q1
 cases r1
 exact Mc ⟨H1,I1,q⟩
theorem BP{e:Le}{t:TE}(h:PE X e t)(he:∀whole,isTrue e X.env whole=(do let v ←whole;Ql e.pos;holding [v] (truthy v)):=by intro _;rfl):PT X e (tB t):=by
 intro pins s σ H Q I hw;refine isTrue_plain (bJ (h pins s σ H _ I hw) λv s1 ⟨x,H1,I1,r1,q1⟩=>?_) (he _);obtain⟨d,rfl,q⟩:=q1
 cases r1
 exact Mc ⟨H1,I1,q⟩
variable {tA tB':TT}{rest:List Le}
def D4(t u:TT):TT:=λσ H Q=>t σ H λc H1=>if c=true then u σ H1 Q else Q false H1
def G0(t u:TT):TT:=λσ H Q=>t σ H λc H1=>if c=true then Q true H1 else u σ H1 Q
def DW(t:TT):TT:=λσ H Q=>t σ H λc H1=>Q (!c) H1
theorem yV(ha:PT X a tA):PW X (.BoolOp .And [a] pos) tA:=by
 intro wh pins s σ H Q I h;refine isTrue_and (bJ (ha pins s σ H Q I h) λc s1 e=>?_)
 cases c with
 |true=>exact isTrue_and_nil e
 |false=>exact e
theorem BN(ha:PT X a tA):PW X (.BoolOp .Or [a] pos) tA:=by
 intro wh pins s σ H Q I h;refine isTrue_or (bJ (ha pins s σ H Q I h) λc s1 e=>?_)
 cases c with
 |false=>exact isTrue_or_nil e
 |true=>exact e
theorem BO(ha:PT X a tA)(hb:PW X (.BoolOp .And (b::rest) pos) tB'):PW X (.BoolOp .And (a::b::rest) pos) (D4 tA tB'):=by
 intro wh pins s σ H Q I h;refine isTrue_and (bJ (ha pins s σ H _ I h) λc s1 ⟨H1,I1,q1⟩=>?_)
 cases c with
 |true=>exact hb wh pins s1 σ H1 Q I1 q1
 |false=>exact⟨H1,I1,q1⟩
theorem En(ha:PT X a tA)(hb:PW X (.BoolOp .Or (b::rest) pos) tB'):PW X (.BoolOp .Or (a::b::rest) pos) (G0 tA tB'):=by
 intro wh pins s σ H Q I h;refine isTrue_or (bJ (ha pins s σ H _ I h) λc s1 ⟨H1,I1,q1⟩=>?_)
 cases c with
 |true=>exact⟨H1,I1,q1⟩
 |false=>exact hb wh pins s1 σ H1 Q I1 q1
theorem BQ(ha:PT X a tA):PT X (.UnaryOp .Not a pos) (DW tA):=by
 intro pins s σ H Q I h;exact isTrue_not (ha pins s σ H (λc H1=>Q (!c) H1) I h)
def AC(ta tb:TE):TE:=λσ H Q=>ta σ H λx H1=>∃c,x=.bl c/\if c=true then tb σ H1 Q else Q (.bl false) H1
def IE(ta tb:TE):TE:=λσ H Q=>ta σ H λx H1=>∃c,x=.bl c/\if c=true then Q (.bl true) H1 else tb σ H1 Q
def Av(ta:TE):TE:=λσ H Q=>ta σ H λx H1=>∃c,x=.bl c/\Q (.bl (!c)) H1
theorem B8{op}(h:PE X a t):PE X (.BoolOp op [a] pos) t:=λpins s σ H Q I hw=>BoolOp_one (h pins s σ H Q I hw)
theorem Ce(ha:PE X a ta)(hb:PE X (.BoolOp .And (b::rest) pos) tb):PE X (.BoolOp .And (a::b::rest) pos) (AC ta tb):=by
 intro pins s σ H Q I h;refine BoolOp_and (bJ (ha pins s σ H _ I h) λv s1 ⟨x,H1,I1,r1,q1⟩=>?_);obtain⟨c,rfl,q1⟩:=q1
 cases r1
 refine Mc ?_
 cases c with
 |true=>exact hb pins s1 σ H1 Q I1 q1
 |false=>exact⟨.bl false,H1,I1,Z,q1⟩
theorem B9(ha:PE X a ta):PE X (.UnaryOp .Not a pos) (Av ta):=by
 intro pins s σ H Q I h;refine UnaryOp_ (bJ (ha pins s σ H _ I h) λv s1 ⟨x,H1,I1,r1,q1⟩=>?_);obtain⟨c,rfl,q1⟩:=q1
 cases r1
 exact not_of (Mc ⟨.bl (!c),H1,I1,Z,q1⟩)
def JJ(t:TT)(ta tb:TE):TE:=λσ H Q=>t σ H λc H1=>if c=true then ta σ H1 Q else tb σ H1 Q
end
end L2
namespace L2
open PySem PySem.Spec PyProof.Rows
def aO(K:J5)(H:Hp)(a:Addr)(xs:List V):Prop:=
 Rd H a (.lst xs)∨
  ∃(o:LY) (its:Array Value) (n:Nat),K.lookup a=some o/\o.cls=.type "list"/\o.dict=none/\o.data=.seq its n/\its.size≤sizeLine/\aZ xs its.toList
def bH(K:J5)(H:Hp)(a:Addr)(xs:List V):Prop:=
 Rd H a (.tup xs)∨
  ∃(o:LY) (its:Array Value) (n:Nat),K.lookup a=some o/\o.cls=.type "tuple"/\o.data=.seq its n/\its.size≤sizeLine/\aZ xs its.toList
def GF:Value->Option V
 | .none=>some .non
 | .bool b=>some (.bl b)
 | .int i _=>some (.int i)
 | .str x _=>some (.str x)
 | .bytes b _=>some (.byt b)
 | .float b _=>some (.flt b)
 | .ref a=>some (.ref a)
 | .type n=>some (.ty n)
 |_=>none
theorem aY.abs(r:aY x u):GF u=some x:=by
 cases x with
 |non=>cases r;rfl
 |bl _=>cases r;rfl
 |int _=>obtain⟨t,rfl⟩:=r;rfl
 |str _=>obtain⟨t,rfl⟩:=r;rfl
 |byt _=>obtain⟨t,rfl⟩:=r;rfl
 |flt _=>obtain⟨t,rfl⟩:=r;rfl
 |ref _=>cases r;rfl
 |ty _=>cases r;rfl
theorem aY.inj(r:aY x u)(q:aY y u):x=y:=Lu (r.abs.symm.trans q.abs)
theorem aZ.inj:∀{xs ys:List V} {us:List Value},aZ xs us->aZ ys us->xs=ys
 |_,_,_,.nil,.nil=>rfl
 |_,_,_,.cons r t,.cons r' t'=>by rw[r.inj r',aZ.inj t t']
section
variable {X:Cx}{pins:List (Addr×LY)}{σ:St}{H:Hp}{s:Ka}{a:Addr}{xs ys:List V}
theorem aO.of{K:J5}(h:H a=some (.lst xs)):aO K H a xs:=.inl (.inl h)
theorem bH.of{K:J5}(h:H a=some (.tup xs)):bH K H a xs:=.inl (.inl h)
theorem Inv.list(I:Inv X pins σ H s)(h:aO X.K H a xs):∃its:List Value,aZ xs its/\PlainL s.heap a its.toArray/\xs.length≤sizeLine:=by
 rcases h with h | ⟨o,its,n,hk,hc,hd,hs,hz,r⟩
 ·obtain⟨z,its,n,r,e⟩:=h.ok I.hok;exact⟨its,r,⟨_,n,e,Z,Z,Z⟩,z⟩
 ·refine⟨its.toList,r,⟨o,n,I.kIn a o hk,hc,hd,by simpa using hs⟩,?_⟩;have e:=r.length;simp only[Lg] at e;omega
theorem Inv.tuple(I:Inv X pins σ H s)(h:bH X.K H a xs):∃its:List Value,aZ xs its/\Tz s.heap a its.toArray/\xs.length≤sizeLine:=by
 rcases h with h | ⟨o,its,n,hk,hc,hs,hz,r⟩
 ·obtain⟨z,its,r,p⟩:=h.ok I.hok;exact⟨its,r,p,z⟩
 ·refine⟨its.toList,r,⟨o,I.kIn a o hk,hc,n,by simpa using hs⟩,?_⟩;have e:=r.length;simp only[Lg] at e;omega
theorem Inv.list_inj(I:Inv X pins σ H s)(h:aO X.K H a xs)(h':aO X.K H a ys):xs=ys:=by
 obtain⟨its,r,⟨o,n,e,_,_,d⟩,_⟩:=I.list h;obtain⟨its',r',⟨o',n',e',_,_,d'⟩,_⟩:=I.list h';rw[e] at e';cases e';rw[d] at d';injection d' with d1 _;have:its=its':=by simpa using congrArg Array.toList d1
 subst this;exact r.inj r'
theorem Inv.tuple_inj(I:Inv X pins σ H s)(h:bH X.K H a xs)(h':bH X.K H a ys):xs=ys:=by
 obtain⟨its,r,⟨o,e,_,n,d⟩,_⟩:=I.tuple h;obtain⟨its',r',⟨o',e',_,n',d'⟩,_⟩:=I.tuple h';rw[e] at e';cases e';rw[d] at d';injection d' with d1 _;have:its=its':=by simpa using congrArg Array.toList d1
 subst this;exact r.inj r'
end
abbrev Cx.wish(X:Cx)(E:Value->Ka->Prop):Cx:={ X with xe:=E}
abbrev Cx.nox(X:Cx):Cx:=X.wish λ_ _=>False
theorem Cx.Ok.wish{X:Cx}(ok:X.Ok)(E:Value->Ka->Prop):(X.wish E).Ok:=
 ⟨ok.mod,ok.kind,ok.glob,ok.blt,ok.above,ok.inj,ok.has,ok.cab,ok.hd,ok.frames,ok.stk,ok.exf,ok.bs,ok.bsz,ok.noex,ok.exfs,ok.funs,ok.frf⟩
theorem Cx.Ok.unwish{X:Cx}(ok:(X.wish E).Ok):X.Ok:=
 ⟨ok.mod,ok.kind,ok.glob,ok.blt,ok.above,ok.inj,ok.has,ok.cab,ok.hd,ok.frames,ok.stk,ok.exf,ok.bs,ok.bsz,ok.noex,ok.exfs,ok.funs,ok.frf⟩
section
variable {X:Cx}{pins:List (Addr×LY)}{σ:St}{H:Hp}{s:Ka}{E:Value->Ka->Prop}
theorem Inv.wish(I:Inv X pins σ H s)(E:Value->Ka->Prop):Inv (X.wish E) pins σ H s:=⟨I.ok.wish E,I.os,I.bare,I.base,I.loc,I.cell,I.free,I.freeC,I.pin,I.hok,I.len⟩
theorem Inv.unwish(I:Inv (X.wish E) pins σ H s):Inv X pins σ H s:=⟨I.ok.unwish,I.os,I.bare,I.base,I.loc,I.cell,I.free,I.freeC,I.pin,I.hok,I.len⟩
theorem SP.unwish(h:SP (X.wish E) pins D f s'):SP X pins D f s':=by
 cases f with
 |next=>obtain⟨σ',H',I,q⟩:=h;exact⟨σ',H',I.unwish,q⟩
 |brk=>obtain⟨σ',H',I,q⟩:=h;exact⟨σ',H',I.unwish,q⟩
 |cont=>obtain⟨σ',H',I,q⟩:=h;exact⟨σ',H',I.unwish,q⟩
 |ret u=>obtain⟨v,σ',H',I,r,q⟩:=h;exact⟨v,σ',H',I.unwish,r,q⟩
theorem qT.nox{st:List Stmt}(h:qT X.nox st t):qT X st t:=λpins s σ H D I hw=>
 MX (h pins s σ H D (I.wish _) hw) (λ_ _ q=>q.unwish) λ_ _ z=>MY z
end
section
variable {X:Cx}{st:Stmt}{rest:List Stmt}{t u:TS}{e:Le}{te:TE}{pos:NW}
def Aw:TS:=λD σ H=>D.nx σ H
def A4(t u:TS):TS:=λD σ H=>t { D with nx:=u D} σ H
theorem y3:qT X [] Aw:=λ_ _ σ H _ I h=>OX ⟨σ,H,I,h⟩
theorem vZ(h1:PS X st t)(h2:qT X rest u):qT X (st::rest) (A4 t u):=by
 intro pins s σ H D I h;refine Sf (bJ (h1 pins s σ H { D with nx:=u D} I h) λf s1 q=>?_)
 cases f with
 |next=>
  obtain⟨σ',H',I',q⟩:=q;exact h2 pins s1 σ' H' D I' q
 |ret v=>exact q
 |brk=>exact q
 |cont=>exact q
theorem yZ(h1:PS X st t):qT X [st] t:=by
 intro pins s σ H D I h;refine Sf (bJ (h1 pins s σ H D I h) λf s1 q=>?_)
 cases f with
 |next=>exact OX q
 |ret v=>exact q
 |brk=>exact q
 |cont=>exact q
def Ga:TS:=λD σ H=>D.bk σ H
def G4:TS:=λD σ H=>D.ct σ H
theorem Inv.quiet{pins:List (Addr×LY)}{σ:St}{H:Hp}{s:Ka}(I:Inv X pins σ H s):interactive X.env=false:=by simp[interactive,I.ok.kind]
def Ay(te:TE):TS:=λD σ H=>te σ H λ_ H1=>D.nx σ H1
theorem za(he:PE X e te)(hs:NQ e none pos.line X.env=Mz false:=by rfl):PS X (.Expr e pos) (Ay te):=by
 intro pins s σ H D I h;exact wpAny_Expr_any (bJ (he pins s σ H _ I h) λv s1 ⟨x,H1,I1,r1,q1⟩=>⟨σ,H1,I1,q1⟩) I.quiet hs
def DU(te:TE):TS:=λD σ H=>te σ H D.rt
theorem BT(he:PE X e te):PS X (.Return (some e) pos) (DU te):=by
 intro pins s σ H D I h;exact wpAny_Return_some (bJ (he pins s σ H _ I h) λv s1 ⟨x,H1,I1,r1,q1⟩=>⟨x,σ,H1,I1,r1,q1⟩)
def GZ:TS:=λD _ H=>D.rt .non H
def DY(c:TT)(t u:TS):TS:=λD σ H=>c σ H λb H1=>if b=true then t D σ H1 else u D σ H1
theorem Ep(hc:PT X c tc)(ha:qT X a t)(hb:qT X b u):PS X (.If c a b pos) (DY tc t u):=by
 intro pins s σ H D I h;refine wpAny_If (bJ (hc pins s σ H _ I h) λd s1 ⟨H1,I1,q1⟩=>?_)
 cases d with
 |true=>exact ha pins s1 σ H1 D I1 q1
 |false=>exact hb pins s1 σ H1 D I1 q1
def ux:TS:=λ_ _ _=>False
theorem v2:PS X st ux:=λ_ _ _ _ _ _ h=>h.elim
end
abbrev TG:=V->St->Hp->(St->Hp->Prop)->Prop
abbrev ui:=List V->St->Hp->(St->Hp->Prop)->Prop
def PG(X:Cx)(target:Le)(t:TG):Prop:=
 ∀(pins:List (Addr×LY)) (s:Ka) (σ:St) (H:Hp) (v:V) (u:Value) (Q:St->Hp->Prop),Inv X pins σ H s->aY v u->t v σ H Q→
  Kz (KF X.prog X.w) X.A (PM target X.env u) (λ_ s'=>∃σ' H',Inv X pins σ' H' s'/\Q σ' H') X.xe s
def DG(X:Cx)(ts:List Le)(t:ui):Prop:=
 ∀(pins:List (Addr×LY)) (s:Ka) (σ:St) (H:Hp) (vs:List V) (us:List Value) (Q:St->Hp->Prop),Inv X pins σ H s->aZ vs us->t vs σ H Q→
  Kz (KF X.prog X.w) X.A (Re ((Mq ts X.env).map (·.2)) us) (λ_ s'=>∃σ' H',Inv X pins σ' H' s'/\Q σ' H') X.xe s
abbrev qR:=V->V->V->Hp->(Hp->Prop)->Prop
def yn(X:Cx)(t:qR):Prop:=
 ∀(pins:List (Addr×LY)) (s:Ka) (σ:St) (H:Hp) (o i v:V) (ov iv u:Value) (Q:Hp->Prop),Inv X pins σ H s->aY o ov->aY i iv->aY v u->t o i v H Q→
  Kz (KF X.prog X.w) X.A (RA ov iv u) (λ_ s'=>∃H',Inv X pins σ H' s'/\Q H') X.xe s
abbrev AX:=V->V->Hp->VK->Prop
def DF(X:Cx)(op:QL)(t:AX):Prop:=
 ∀(pins:List (Addr×LY)) (s:Ka) (σ:St) (H:Hp) (x y:V) (v u:Value) (Q:VK),Inv X pins σ H s->aY x v->aY y u->t x y H Q→
  Kz (KF X.prog X.w) X.A (Tk op v u) (EP X pins σ Q) X.xe s
section
variable {X:Cx}{pos:NW}
def ko(i:Nat):TG:=λv σ H Q=>Q (σ.set i (some v)) H
theorem zk{i:Nat}{x:K1}(hN:X.N.Nodup)(hi:X.N[i]?=some x)(hx:yq X.env.scope x)(hf:X.fn x=true∨X.env.scope.names.lookup x=some .local:=by first|exact .inl Z|exact .inr Z|assumption):PG X (.Name x pos) (ko i):=by
 intro pins s σ H v u Q I r h;exact RB (fA I hN hi hx r (λs' I'=>⟨_,H,I',h⟩) hf)
def EY:ui:=λvs σ H Q=>vs=[]/\Q σ H
def AU(t:TG)(u:ui):ui:=λvs σ H Q=>∃v r,vs=v::r/\t v σ H λσ' H'=>u r σ' H' Q
theorem zi:DG X [] EY:=by
 intro pins s σ H vs us Q I r h;obtain⟨e,h⟩:=h;subst e
 cases r
 exact RC ⟨σ,H,I,h⟩
theorem wj{e:Le}{es:List Le}{t:TG}{u:ui}(h1:PG X e t)(h2:DG X es u)
  (hs:(Mq (e::es) X.env).map (·.2)=PM e X.env::(Mq es X.env).map (·.2):=by rfl):DG X (e::es) (AU t u):=by
 intro pins s σ H vs us Q I r h;obtain⟨v,vr,e1,h⟩:=h;subst e1
 cases r with
 |cons r rr=>
  rw[hs];refine Pd (bJ (h1 pins s σ H _ _ _ I r h) λ_ s1 ⟨σ1,H1,I1,q1⟩=>?_);exact h2 pins s1 σ1 H1 _ _ Q I1 rr q1
def zZ(K:J5)(n:Nat)(t:ui):TG:=λv σ H Q=>∃a xs,v=.ref a/\bH K H a xs/\xs.length=n/\t xs σ H Q
theorem wm{es:List Le}{k:Nat}{t:ui}{n:Nat}(hc:X.calm=true)(h:DG X es t)
  (hn:(Mq es X.env).length=n:=by rfl) (hst:(Mq es X.env).findIdx? (·.1)=none:=by rfl):PG X (.Tuple es k pos) (zZ X.K n t):=by
 intro pins s σ H v u Q I r hw;obtain⟨a,xs,e1,hq,hl,hw⟩:=hw;subst e1
 cases r
 obtain⟨its,rv,ht,hz⟩:=I.tuple hq;refine assign_Tuple_tuple (I.ok.hd hc) ht (by simp[hn,←hl,rv.length]) hst λh' hx=>?_
 have I1:Inv X pins σ H { s with heap:=h'}:=I.kept (t':=s.toks) λb o e=>hx b o (KM (Kx e)) e
 exact h pins _ σ H xs _ Q I1 (by simpa using rv) hw
def EX(to ti:TE)(t:qR):TG:=λv σ H Q=>to σ H λo H1=>ti σ H1 λi H2=>t o i v H2 λH3=>Q σ H3
theorem B4{o i:Le}{to ti:TE}{t:qR}(ho:PE X o to)(hi:PE X i ti)(hs:yn X t)
  (ha:∀v,PM (.Subscript o i pos) X.env v=(do
   let ov ←holding [v] (eval o X.env);let iv ←holding [v,ov] (eval i X.env)
   Ql pos
   holding [v,ov,iv] (RA ov iv v)
   Tu [v,ov,iv] []):=by intro _;rfl):PG X (.Subscript o i pos) (EX to ti t):=by
 intro pins s σ H v u Q I r h;rw[ha];refine J8 (wpAny_holding (bJ (ho pins s σ H _ I h) λov s1 ⟨x,H1,I1,r1,q1⟩=>?_));refine J8 (wpAny_holding (bJ (hi pins s1 σ H1 _ I1 q1) λiv s2 ⟨y,H2,I2,r2,q2⟩=>?_));refine J8 (PN (J8 (wpAny_holding (bJ (hs pins s2 σ H2 x y v ov iv u _ I2 r1 r2 r q2) λ_ s3 ⟨H3,I3,q3⟩=>?_))));exact wpAny_release ⟨σ,H3,I3,q3⟩
def pT(te:TE)(g:TG):TS:=λD σ H=>te σ H λx H1=>g x σ H1 D.nx
theorem BY{tg e:Le}{te:TE}{g:TG}(he:PE X e te)(hg:PG X tg g)(hs:PP [tg] e pos.line X.env=Mz false:=by rfl)(hw:PQ [tg] e X.env=Mz none:=by rfl)
  (h1:(Mq [tg] X.env).map (·.2)=[PM tg X.env]:=by rfl):PS X (.Assign [tg] e pos) (pT te g):=by
 intro pins s σ H D I h;refine wpAny_Assign_stores (bJ (he pins s σ H _ I h) λv s1 ⟨x,H1,I1,r1,q1⟩=>?_) hs hw;rw[h1];exact bJ (hg pins s1 σ H1 x v _ I1 r1 q1) λ_ s2 q=>q
theorem BS{i:Nat}{x:K1}{e:Le}{te:TE}{pos':NW}(hN:X.N.Nodup)(hi:X.N[i]?=some x)(hx:yq X.env.scope x)(he:PE X e te)(hs:NQ e (some (.Name x pos')) pos.line X.env=Mz false:=by rfl)(hf:X.fn x=true∨X.env.scope.names.lookup x=some .local:=by first|exact .inl Z|exact .inr Z|assumption) :
  PS X (.Assign [.Name x pos'] e pos) (pT te (ko i)):=by
 intro pins s σ H D I h;refine wpAny_Assign_Name (bJ (he pins s σ H _ I h) λv s1 ⟨y,H1,I1,r1,q1⟩=>?_) hs;exact fA I1 hN hi hx r1 (λs2 I2=>⟨_,H1,I2,q1⟩) hf
def DV(i j:Nat)(ta:TA):TS:=λD σ H=>ta σ H λvs H1=>∃v w,vs=[v,w]/\D.nx ((σ.set i (some v)).set j (some w)) H1
theorem BU{i j:Nat}{x y:K1}{a b:Le}{ta:TA}{px py pt:NW}{kt k2 pt2}(hc:X.calm=true)(hN:X.N.Nodup)(hi:X.N[i]?=some x)(hj:X.N[j]?=some y)(hij:i≠j)
  (hx:X.env.scope.names.lookup x=some .local) (hy:X.env.scope.names.lookup y=some .local) (ha:PA X [a,b] ta)
  (hw:PQ [.Tuple [.Name x px,.Name y py] kt pt] (.Tuple [a,b] k2 pt2) X.env=Mz (some [x,y]))
  (hs:PP [.Tuple [.Name x px,.Name y py] kt pt] (.Tuple [a,b] k2 pt2) pos.line X.env=Mz false:=by rfl) :
  PS X (.Assign [.Tuple [.Name x px,.Name y py] kt pt] (.Tuple [a,b] k2 pt2) pos) (DV i j ta):=by
 intro pins s σ H D I h;rw[exec_Assign_arm];refine J8 (PN ?_);rw[hs];refine J8 (wpAny_pure ?_);rw[if_neg (by decide)];refine J8 (Tuple_ (bJ (ha _ pins s σ H _ I h) λus s1 ⟨vs,H1,I1,r1,q1⟩=>?_));obtain⟨v,w,e1,q1⟩:=q1;subst e1;obtain⟨u1,u2,rfl,rv,rw'⟩:∃u1 u2,us=[u1,u2]/\aY v u1/\aY w u2:=by
  cases r1 with
  |cons p q=>
   cases q with
   |cons p' q'=>
    cases q'
    exact⟨_,_,Z,p,p'⟩
 refine LA ?_ gI;have I2:Inv X pins σ H1 { s1 with heap:=s1.heap.push { cls:=.type "tuple",data:=.seq [u1,u2].toArray} }:=I1.kept (t':=s1.toks) λb o e=>Kd _ e
 rw[hw];refine J8 (wpAny_pure ?_);show Kz (KF X.prog X.w) X.A (do rule "assign.swapped-stores";let items ←unpackItems (.ref s1.heap.objs.size) 2 none;Re [λv=>SM X.env y v,λv=>SM X.env x v] items.reverse;Mz Tn) _ _ _;refine J8 (Rn (J8 (unpackItems_tuple (items:=#[u1,u2]) (I.ok.hd hc) (To s1.heap _) λh' hx'=>?_)));have I3:=I2.kept (h':=h') (t':=s1.toks) λb o e=>hx' b o (KM (Kx e)) e
 show Kz _ _ (Re [λv=>SM X.env y v,λv=>SM X.env x v] [u2,u1] >>= λ_=>Mz Tn) _ _ _;refine J8 (Pd (wpAny_bindName (fA I3 hN hj (.inl hy) rw' (λs2 I4=>?_) (.inr hy))));refine Pd (wpAny_bindName (fA I4 hN hi (.inl hx) rv (λs3 I5=>RC (wpAny_pure ?_)) (.inr hx)));rw[List.set_comm _ _ (M5 hij)] at I5;exact⟨_,H1,I5,q1⟩
def D1(i:Nat)(te:TE)(ti:AX):TS:=λD σ H=>∃x,σ[i]?=some (some x)/\te σ H λy H1=>ti x y H1 λz H2=>D.nx (σ.set i (some z)) H2
theorem BX{i:Nat}{x:K1}{e:Le}{te:TE}{op:QL}{ti:AX}{pos':NW}(hN:X.N.Nodup)(hi:X.N[i]?=some x)(hx:yq X.env.scope x)(he:PE X e te)(ho:DF X op ti)(hf:X.fn x=true∨X.env.scope.names.lookup x=some .local:=by first|exact .inl Z|exact .inr Z|assumption) :
  PS X (.AugAssign (.Name x pos') op e pos) (D1 i te ti):=by
 intro pins s σ H D I h;obtain⟨v,e1,h⟩:=h;obtain⟨m,hn,hl⟩:=I.loc;have vis:Fd X.env.scope x:=by rcases hx with k|k;exact .inl k;exact .inr (.inl k)
 obtain⟨u,r,l⟩:=hl i x v hi e1 vis;refine wpAny_AugAssign_Name ?_;have go:Kz (KF X.prog X.w) X.A (eval e X.env) (λw s₂=>Kz (KF X.prog X.w) X.A (Tk op u w) (λr s₃=>Kz (KF X.prog X.w) X.A (Tj X.env x r) (λ_=>SP X pins D .next) X.xe s₃) X.xe s₂) X.xe s:=by
  refine bJ (he pins s σ H _ I h) λw s1 ⟨y,H1,I1,r1,q1⟩=>?_
  refine bJ (ho pins s1 σ H1 v y u w _ I1 r r1 q1) λz s2 ⟨zv,H2,I2,r2,q2⟩=>?_
  exact fA I2 hN hi hx r2 (λs3 I3=>⟨_,H2,I3,q2⟩) hf
 rcases l with⟨hk,hm⟩ | ⟨hk,c,hc,hcell⟩
 ·exact QK I.ok.kind hk hn hm go
 ·rcases hk with hk|hk
  ·exact Q7 I.ok.kind hk hc hcell go
  ·rcases hx with k|k
   ·have:X.env.scope.names.lookup x=some .free:=hk;rw[k] at this;cases this
   ·have:X.env.scope.names.lookup x=some .free:=hk;rw[k] at this;cases this
def AB(to ti te:TE)(tget:V->V->Hp->VK->Prop)(tip:AX)(tset:qR):TS:=λD σ H=>to σ H λo H1=>ti σ H1 λi H2=>tget o i H2 λx H3=>te σ H3 λy H4=>tip x y H4 λz H5=>tset o i z H5 λH6=>D.nx σ H6
def Dp(X:Cx)(t:V->V->Hp->VK->Prop):Prop:=
 ∀(pins:List (Addr×LY)) (s:Ka) (σ:St) (H:Hp) (o i:V) (ov iv:Value) (Q:VK),Inv X pins σ H s->aY o ov->aY i iv->t o i H Q→
  Kz (KF X.prog X.w) X.A (O4 ov iv) (EP X pins σ Q) X.xe s
theorem zc{o i e:Le}{to ti te:TE}{tget:V->V->Hp->VK->Prop}{tip:AX}{tset:qR}{op:QL}{tpos:NW}(ho:PE X o to)(hi:PE X i ti)(hg:Dp X tget)(he:PE X e te)(hp:DF X op tip)(hs:yn X tset)
  (ha:∀ov iv new,augStore i ov iv new=(do holding [new,ov,iv] (RA ov iv new);Tu [new,ov,iv] [];Mz .next):=by intros;rfl):PS X (.AugAssign (.Subscript o i tpos) op e pos) (AB to ti te tget tip tset):=by
 intro pins s σ H D I h;refine wpAny_AugAssign_SubscriptAny (bJ (ho pins s σ H _ I h) λov s1 ⟨x1,H1,I1,r1,q1⟩=>?_) ha;refine bJ (hi pins s1 σ H1 _ I1 q1) λiv s2 ⟨x2,H2,I2,r2,q2⟩=>?_
 refine bJ (hg pins s2 σ H2 x1 x2 ov iv _ I2 r1 r2 q2) λold s3 ⟨x3,H3,I3,r3,q3⟩=>?_
 refine bJ (he pins s3 σ H3 _ I3 q3) λv s4 ⟨x4,H4,I4,r4,q4⟩=>?_
 refine bJ (hp pins s4 σ H4 x3 x4 old v _ I4 r3 r4 q4) λnew s5 ⟨x5,H5,I5,r5,q5⟩=>?_
 exact bJ (hs pins s5 σ H5 x1 x2 x5 ov iv new _ I5 r1 r2 r5 q5) λ_ s6 ⟨H6,I6,q6⟩=>⟨σ,H6,I6,q6⟩
def Hs(f:Int->Int->Int):AX:=λx y H Q=>∃i j,x=.int i/\y=.int j/\Q (.int (f i j)) H
theorem xl:DF X .Add (Hs λi j=>i+j):=by
 intro pins s σ H x y v u Q I r1 r2 h;obtain⟨i,j,e1,e2,q⟩:=h;subst e1;subst e2;obtain⟨t,rfl⟩:=r1;obtain⟨t',rfl⟩:=r2;exact iadd_int ⟨.int _,H,I.tok _,⟨_,Z⟩,q⟩
theorem qy:DF X .Sub (Hs λi j=>i-j):=by
 intro pins s σ H x y v u Q I r1 r2 h;obtain⟨i,j,e1,e2,q⟩:=h;subst e1;subst e2;obtain⟨t,rfl⟩:=r1;obtain⟨t',rfl⟩:=r2;exact isub_int ⟨.int _,H,I.tok _,⟨_,Z⟩,q⟩
end
section
variable {X:Cx}{pos:NW}
def uw(c:TT)(tb:TS):TS:=λD σ H=>∃W:Nat->St->Hp->Prop,(∃m,W m σ H)/\∀m σ H,W m σ H→
 c σ H λb H1=>if b=true then ∃N:St->Hp->Prop,(∀σ' H',N σ' H'->∃m',m'<m/\W m' σ' H')/\tb { D with nx:=N,ct:=N,bk:=D.nx} σ H1 else D.nx σ H1
theorem v1(hp:Lh (KF X.prog X.w) X.A X.env X.xe)(hc:PT X c tc)(hb:qT X body tb):PS X (.While c body [] pos) (uw tc tb):=by
 intro pins s σ H D I h;obtain⟨W,⟨m0,w0⟩,turn⟩:=h;refine wpAny_While (codeAny_whileLoop (λn s'=>∃σ' H',Inv X pins σ' H' s'/\W n σ' H') ?_ m0 ⟨σ,H,I,w0⟩);rintro n s1 ⟨σ1,H1,I1,w1⟩;refine Nj hp (bJ (hc pins s1 σ1 H1 _ I1 (turn n σ1 H1 w1)) λb s2 ⟨H2,I2,q2⟩=>?_)
 cases b with
 |true=>
  obtain⟨N,hN,q2⟩:=q2;rw[if_pos Z];refine Nj hp (bJ (hb pins s2 σ1 H2 _ I2 q2) λf s3 q3=>?_)
  cases f with
  |next=>
   obtain⟨σ3,H3,I3,n3⟩:=q3;obtain⟨m',hm,w3⟩:=hN σ3 H3 n3;exact⟨m',hm,σ3,H3,I3,w3⟩
  |cont=>
   obtain⟨σ3,H3,I3,n3⟩:=q3;obtain⟨m',hm,w3⟩:=hN σ3 H3 n3;exact⟨m',hm,σ3,H3,I3,w3⟩
  |brk=>exact q3
  |ret v=>exact q3
 |false=>
  rw[if_neg Kj];exact OX ⟨σ1,H2,I2,q2⟩
end
structure It where
 go:Nat->Hp->Prop
 yld:Nat->Hp->V->Hp->Prop
 stop:Nat->Hp->Prop
def i3(X:Cx)(pins:List (Addr×LY))(H:Hp)(b:Addr):Prop:=
 H b=none/\b≠X.env.locals/\b∉X.fs/\(b∈X.ex∨X.s₀.heap.get? b=none)/\(∀x c,X.env.cells.lookup x=some c->c≠b)/\∀p∈X.pn++pins,p.1≠b
theorem Inv.fpOk{X:Cx}{pins:List (Addr×LY)}{σ:St}{H H':Hp}{s:Ka}{b:Addr}(I:Inv X pins σ H s)(hb:s.heap.objs.size≤b)(hn:H' b=none):i3 X pins H' b:=by
 refine⟨hn,NC (Ky I.lt hb),I.nofs hb,.inr (OT (K5 I.sz hb)),λx c e z=>?_,λp hp z=>?_⟩
 ·obtain⟨v,q⟩:=I.cell x c e;exact absurd (Ky q.lt (by rw[z];exact hb)) (MG _)
 ·exact absurd (Ky (Kx (I.pin p hp).1) (by rw[z];exact hb)) (MG _)
structure qP(P:KZ)(w:Lk)(K:J5)(tg:Le)(J:It)(fp:List Addr)(it:Addr)(tn:Nat->Kp->Prop):Prop where
 mem:it∈fp
 obj:∀i h,tn i h->∀b∈fp,∃o,h.get? b=some o/\∀v,o.data≠.cell v
 keep:∀i h h',tn i h->(∀b∈fp,∀o,h.get? b=some o->h'.get? b=some o)->tn i h'
 item:∀(X:Cx),X.prog=P->X.w=w->X.K=K->X.calm=true->∀(i:Nat) (pins:List (Addr×LY)) (s:Ka) (σ:St) (H:Hp) (E:Value->Ka->Prop),Inv X pins σ H s->(∀b∈fp,i3 X pins H b)->tn i s.heap->J.go i H→
  Kz (KF P w) X.A (OI (.ref it)) (λr s1=>∃u,r=some u∧
   Kz (KF P w) X.A (OY tg (.ref it) u) (λ_ s2=>∃x H',Inv X pins σ H' s2/\aY x u/\J.yld i H x H'/\tn (i+1) s2.heap/\∀b∈fp,H' b=none) E s1) E s
 done:∀(X:Cx),X.prog=P->X.w=w->X.K=K->X.calm=true->∀(i:Nat) (pins:List (Addr×LY)) (s:Ka) (σ:St) (H:Hp) (E:Value->Ka->Prop),Inv X pins σ H s->(∀b∈fp,i3 X pins H b)->tn i s.heap->J.stop i H→
  Kz (KF P w) X.A (OI (.ref it)) (λr s1=>r=none/\Inv X pins σ H s1) E s
 self:∀(A:K3) (i:Nat) (s:Ka) (Q:Value->Ka->Prop) (E:Value->Ka->Prop),tn i s.heap->Q (.ref it) s->Kz (KF P w) A (Sg (.ref it)) Q E s
abbrev TI:=St->Hp->(It->Hp->Prop)->Prop
def Ii(X:Cx)(pins:List (Addr×LY))(σ:St)(tg:Le)(R:It->Hp->Prop)(itv:Value)(s2:Ka):Prop:=
 ∃(it:Addr) (fp:List Addr) (tn:Nat->Kp->Prop) (J:It) (H':Hp),itv=.ref it/\Inv X pins σ H' s2/\qP X.prog X.w X.K tg J fp it tn/\tn 0 s2.heap/\(∀b∈fp,i3 X pins H' b)/\R J H'
def PI(X:Cx)(tg iter:Le)(wi:TI):Prop:=
 ∀(pins:List (Addr×LY)) (s:Ka) (σ:St) (H:Hp) (R:It->Hp->Prop),Inv X pins σ H s->wi σ H R→
  Kz (KF X.prog X.w) X.A (eval iter X.env) (λv s1=>Kz (KF X.prog X.w) X.A (Sg v) (Ii X pins σ tg R) X.xe s1) X.xe s
theorem rT(ho:s.heap.get? it=some o)(hc:o.cls=.type n)(hd:o.data=.fields vs)
  (hn:["enumerate","zip","dict_itemiterator","dict_reverseitemiterator","odict_iterator","itertools.zip_longest","itertools.pairwise"].contains n=false) (hQ:Q () s):Kz M A (OY tg (.ref it) u) Q E s:=by
 unfold OY
 cases tg<;>first
  |exact wpAny_pure hQ
  | (cases u<;>first
    |exact wpAny_pure hQ
    | (refine J8 (wpAny_load ho ?_)
       rw[hc,hd];show Kz M A (if(["enumerate","zip","dict_itemiterator","dict_reverseitemiterator","odict_iterator","itertools.zip_longest","itertools.pairwise"].contains n&&vs[0]?==some (QM _))=true then _ else _) Q E s;rw[if_neg (by intro h;rw[hn,NY] at h;cases h)];exact wpAny_pure hQ))
def yt(K:J5)(a:Addr):It:=
 ⟨λi H=>∃xs x,aO K H a xs/\xs[i]?=some x,λi H x H'=>H'=H/\∀xs,aO K H a xs->xs[i]?=some x,λi H=>∃xs,aO K H a xs/\xs.length≤i⟩
def yr(K:J5)(a:Addr):It:=
 ⟨λi H=>∃xs x,bH K H a xs/\xs[i]?=some x,λi H x H'=>H'=H/\∀xs,bH K H a xs->xs[i]?=some x,λi H=>∃xs,bH K H a xs/\xs.length≤i⟩
def Ar(lo:Int)(n:Nat):It:=⟨λi _=>i<n,λi H x H'=>H'=H/\x=.int (lo+i),λi _=>n≤i⟩
theorem k9{P:KZ}{w:Lk}{K:J5}{tg:Le}(a it:Addr):qP P w K tg (yt K a) [it] it (λi h=>h.IsListIter it a i) where
 mem:=by simp
 obj:=λi h st b hb=>by
  have e:b=it:=by simpa using hb
  subst e;obtain⟨o,e,c,d⟩:=st;exact⟨o,e,λv z=>by rw[d] at z;cases z⟩
 keep:=λi h h' st k=>st.at λo e=>k it (by simp) o e
 item:=by
  intro X hP hw hK hc i pins s σ H E I hf st hg;subst hP hw hK;obtain⟨xs,x,hq,hx⟩:=hg;obtain⟨its,rv,p,hz⟩:=I.list hq;obtain⟨u,hu,ru⟩:=rv.get hx;obtain⟨f0,f1,f2,f3,f4,f5⟩:=hf it (by simp);refine wpAny_pyNext_list_item st p.isList (x:=u) (by simpa using hu) λh' st' sb=>?_
  have I1:Inv X pins σ H { s with heap:=h'}:=I.turned (t':=s.toks) (λb o hb e=>(sb.2 b hb).trans e) f0 f1 f3 f4 f5;obtain⟨o,e,c,d⟩:=id st';exact⟨u,Z,rT (s:={ s with heap:=h'}) e c d (by decide) ⟨x,H,I1,ru,⟨rfl,λys hy=>by rw[I.list_inj hy hq];exact hx⟩,st',λb hb=>(hf b hb).1⟩⟩
 done:=by
  intro X hP hw hK hc i pins s σ H E I hf st hg;subst hP hw hK;obtain⟨xs,hq,hx⟩:=hg;obtain⟨its,rv,p,hz⟩:=I.list hq;obtain⟨f0,f1,f2,f3,f4,f5⟩:=hf it (by simp);have hl:=rv.length;exact wpAny_pyNext_list_end (I.ok.hd hc) st p.isList (by simp;omega) λh' eb=>⟨Z,I.turned (t':=s.toks) (λb o hb e=>eb b o hb e) f0 f1 f3 f4 f5⟩
 self:=λ_ _ _ _ _ st h=>wpAny_pyIter_listiter st h
theorem jK{P:KZ}{w:Lk}{K:J5}{tg:Le}(a it:Addr):qP P w K tg (yr K a) [it] it (λi h=>h.IsTupleIter it a i) where
 mem:=by simp
 obj:=λi h st b hb=>by
  have e:b=it:=by simpa using hb
  subst e;obtain⟨o,e,c,d⟩:=st;exact⟨o,e,λv z=>by rw[d] at z;cases z⟩
 keep:=λi h h' st k=>st.at λo e=>k it (by simp) o e
 item:=by
  intro X hP hw hK hc i pins s σ H E I hf st hg;subst hP hw hK;obtain⟨xs,x,hq,hx⟩:=hg;obtain⟨its,rv,p,hz⟩:=I.tuple hq;obtain⟨u,hu,ru⟩:=rv.get hx;obtain⟨f0,f1,f2,f3,f4,f5⟩:=hf it (by simp);refine wpAny_pyNext_tuple_item st (show s.heap.IsTuple a its.toArray from p) (x:=u) (by simpa using hu) λh' st' sb=>?_
  have I1:Inv X pins σ H { s with heap:=h'}:=I.turned (t':=s.toks) (λb o hb e=>(sb.2 b hb).trans e) f0 f1 f3 f4 f5;obtain⟨o,e,c,d⟩:=id st';exact⟨u,Z,rT (s:={ s with heap:=h'}) e c d (by decide) ⟨x,H,I1,ru,⟨rfl,λys hy=>by rw[I.tuple_inj hy hq];exact hx⟩,st',λb hb=>(hf b hb).1⟩⟩
 done:=by
  intro X hP hw hK hc i pins s σ H E I hf st hg;subst hP hw hK;obtain⟨xs,hq,hx⟩:=hg;obtain⟨its,rv,p,hz⟩:=I.tuple hq;obtain⟨f0,f1,f2,f3,f4,f5⟩:=hf it (by simp);have hl:=rv.length;exact wpAny_pyNext_tuple_end (I.ok.hd hc) st (show s.heap.IsTuple a its.toArray from p) (by simp;omega) λh' eb=>⟨Z,I.turned (t':=s.toks) (λb o hb e=>eb b o hb e) f0 f1 f3 f4 f5⟩
 self:=λ_ _ _ _ _ st h=>wpAny_pyIter_tupleiter st h
theorem pN{P:KZ}{w:Lk}{K:J5}{tg:Le}(it:Addr)(lo:Int)(n:Nat):qP P w K tg (Ar lo n) [it] it (λi h=>IsRangeIter h it (lo+(i:Nat)*1) ((n:Int)-(i:Nat)) 1) where
 mem:=by simp
 obj:=λi h st b hb=>by
  have e:b=it:=by simpa using hb
  subst e;exact⟨_,st,λv z=>by
   have z':Sv _=Tp v:=z
   cases z'⟩
 keep:=λi h h' st k=>k it (by simp) _ st
 item:=by
  intro X hP hw hK hc i pins s σ H E I hf st hg;subst hP hw hK;obtain⟨f0,f1,f2,f3,f4,f5⟩:=hf it (by simp);have W:=Walks.range (prog:=X.prog) (w:=X.w) (I.ok.hd hc) it lo 1 n;refine W.item i s _ _ hg st λv h' tk hv st' kk=>?_
  obtain⟨t,rfl⟩:=hv;have I1:Inv X pins σ H { s with heap:=h',toks:=tk}:=I.turned (λb o hb e=>kk b o (by simpa using hb) e) f0 f1 f3 f4 f5;refine⟨_,rfl,rT (s:={ s with heap:=h',toks:=tk}) (n := "range_iterator") st' rfl rfl (by decide) ⟨.int (lo+i),H,I1,⟨t,?_⟩,⟨rfl,rfl⟩,st',λb hb=>(hf b hb).1⟩⟩;rw[Sw]
 done:=by
  intro X hP hw hK hc i pins s σ H E I hf st hg;subst hP hw hK;obtain⟨f0,f1,f2,f3,f4,f5⟩:=hf it (by simp);exact wpAny_pyNext_range_end (I.ok.hd hc) st (by have:n≤i:=hg;omega) λh' eb=>⟨Z,I.turned (t':=s.toks) (λb o hb e=>eb b o hb e) f0 f1 f3 f4 f5⟩
 self:=λ_ _ _ _ _ st h=>wpAny_pyIter_rangeiter st h
end L2
namespace L2
open PySem PySem.Spec PyProof.Rows
section
variable {X:Cx}{tg:Le}
def AS(K:J5)(tl:TE):TI:=λσ H R=>tl σ H λx H1=>∃a,x=.ref a/\(∃xs,aO K H1 a xs)/\R (yt K a) H1
def ES(K:J5)(tl:TE):TI:=λσ H R=>tl σ H λx H1=>∃a,x=.ref a/\(∃xs,bH K H1 a xs)/\R (yr K a) H1
theorem zh(hl:PE X l tl):PI X tg l (AS X.K tl):=by
 intro pins s σ H R I h;refine bJ (hl pins s σ H _ I h) λv s1 ⟨x,H1,I1,r1,q1⟩=>?_
 obtain⟨a,e,⟨xs,hq⟩,q⟩:=q1;subst e
 cases r1
 obtain⟨its,rv,p,hz⟩:=I1.list hq;refine Oz p.isList ?_;refine⟨s1.heap.objs.size,[s1.heap.objs.size],_,_,H1,Z,I1.kept (t':=s1.toks) λb o e=>Kd _ e,k9 a _,⟨_,Kq _ Z,Z,Z⟩,λb hb=>?_,q⟩;have e:b=s1.heap.objs.size:=by simpa using hb
 subst e;exact I1.fpOk (Kb _) (I1.hok.fresh (Kb _))
theorem B2(hl:PE X l tl):PI X tg l (ES X.K tl):=by
 intro pins s σ H R I h;refine bJ (hl pins s σ H _ I h) λv s1 ⟨x,H1,I1,r1,q1⟩=>?_
 obtain⟨a,e,⟨xs,hq⟩,q⟩:=q1;subst e
 cases r1
 obtain⟨its,rv,p,hz⟩:=I1.tuple hq;refine Pe (show s1.heap.IsTuple a its.toArray from p) ?_;refine⟨s1.heap.objs.size,[s1.heap.objs.size],_,_,H1,Z,I1.kept (t':=s1.toks) λb o e=>Kd _ e,jK a _,⟨_,Kq _ Z,Z,Z⟩,λb hb=>?_,q⟩;have e:b=s1.heap.objs.size:=by simpa using hb
 subst e;exact I1.fpOk (Kb _) (I1.hok.fresh (Kb _))
theorem oy{pins:List (Addr×LY)}{σ:St}{H:Hp}{s:Ka}{R:It->Hp->Prop}{E:Value->Ka->Prop}{lo hi:Int}{t u v:Tx}{tk:Nat}(I:Inv X pins σ H s)(h1:-(2^62)≤lo)(h2:lo<2^62)(h3:-(2^62)≤hi)(h4:hi<2^62)
  (q:R (Ar lo (hi-lo).toNat) H):Kz (KF X.prog X.w) X.A (Sg (.ref s.heap.objs.size)) (Ii X pins σ tg R) E { s with heap:=s.heap.push { cls:=.type "range",data:=.fields #[.int lo t,.int hi u,.int 1 v]},toks:=tk}:=by
 refine wpAny_pyIter_range (IsRange.new ..) (small_one h1 h2 h3 h4) ?_;have I1:Inv X pins σ H { s with heap:=s.heap.push { cls:=.type "range",data:=.fields #[.int lo t,.int hi u,.int 1 v]},toks:=tk}:=I.kept λb o e=>Kd _ e
 refine⟨(s.heap.push { cls:=.type "range",data:=.fields #[.int lo t,.int hi u,.int 1 v]}).objs.size,[(s.heap.push { cls:=.type "range",data:=.fields #[.int lo t,.int hi u,.int 1 v]}).objs.size],_,_,H,Z,
  I1.kept (t':=tk) λb o e=>Kd _ e,pN _ lo (hi-lo).toNat,?_,λb hb=>?_,q⟩
 ·have e1:lo+((0:Nat):Int)*1=lo:=by simp
  have e2:(((hi-lo).toNat:Nat):Int)-((0:Nat):Int)=P2 lo hi 1:=by rw[rangeSize_one];split<;>omega
  show IsRangeIter _ _ (lo+((0:Nat):Int)*1) ((((hi-lo).toNat:Nat):Int)-((0:Nat):Int)) 1;rw[e1,e2];exact Kq _ Z
 ·have e:b=(s.heap.push { cls:=.type "range",data:=.fields #[.int lo t,.int hi u,.int 1 v]}).objs.size:=by simpa using hb
  subst e;exact I1.fpOk (Kb _) (I1.hok.fresh (Kb _))
def AR(ta:TA):TI:=λσ H R=>ta σ H λvs H1=>∃j:Int,vs=[.int j]/\-(2^62)≤j/\j<2^62/\R (Ar 0 j.toNat) H1
def AQ(ta:TA):TI:=λσ H R=>ta σ H λvs H1=>∃i j:Int,vs=[.int i,.int j]/\(-(2^62)≤i/\i<2^62/\-(2^62)≤j/\j<2^62)/\R (Ar i (j-i).toNat) H1
theorem tH{a:Le}{ta:TA}{p pos:NW}(hg:Gl X "range")(hm:X.mg "range"=none)(ha:PA X [a] ta)(hs:Kr [a] X.env=[(false,eval a X.env)]:=by rfl):PI X tg (.Call (.Name "range" p) [a] [] pos) (AR ta):=by
 intro pins s σ H R I h;refine Call_ (hX I hg hm SN (Mn (bJ (ha pos pins s σ H _ I h) λus s1 ⟨vs,H1,I1,r1,q1⟩=>?_) hs Z));obtain⟨j,e,q1,q2,q⟩:=q1;subst e
 cases r1 with
 |cons r rr=>
  cases rr
  obtain⟨t,rfl⟩:=r;exact call_range_1 (oy I1 (by omega) (by omega) q1 q2 (by simpa using q))
theorem tG{a b:Le}{ta:TA}{p pos:NW}(hg:Gl X "range")(hm:X.mg "range"=none)(ha:PA X [a,b] ta)(hs:Kr [a,b] X.env=[(false,eval a X.env),(false,eval b X.env)]:=by rfl)(hs2:Kr [b] X.env=[(false,eval b X.env)]:=by rfl) :
  PI X tg (.Call (.Name "range" p) [a,b] [] pos) (AQ ta):=by
 intro pins s σ H R I h;refine Call_ (hX I hg hm SN (Mn (bJ (ha pos pins s σ H _ I h) λus s1 ⟨vs,H1,I1,r1,q1⟩=>?_) (by rw[hs,hs2]) (by rw[hs2];rfl)));obtain⟨i,j,e,⟨q1,q2,q3,q4⟩,q⟩:=q1;subst e
 cases r1 with
 |cons r rr=>
  cases rr with
  |cons r' rr=>
   cases rr
   obtain⟨t,rfl⟩:=r;obtain⟨t',rfl⟩:=r';exact call_range_2 (oy I1 q1 q2 q3 q4 q)
def DZ(wi:TI)(g:TG)(tb:TS):TS:=λD σ H=>wi σ H λJ H1=>∃W:Nat->Nat->St->Hp->Prop,(∃m,W 0 m σ H1)/\∀i m σ H,W i m σ H→
 (J.stop i H/\D.nx σ H)∨(J.go i H/\∃N:St->Hp->Prop,(∀σ' H',N σ' H'->∃m',m'<m/\W (i+1) m' σ' H')/\∀x H',J.yld i H x H'->g x σ H' λσ2 H2=>tb { D with nx:=N,ct:=N,bk:=D.nx} σ2 H2)
def j7(fp:List Addr)(h:Kp):List (Addr×LY):=fp.filterMap λb=>(h.get? b).map λo=>(b,o)
theorem fR(hb:b∈fp)(e:h.get? b=some o):(b,o)∈j7 fp h:=Ro.mpr ⟨b,hb,by rw[e];rfl⟩
theorem tK(hp:p∈j7 fp h):p.1∈fp/\h.get? p.1=some p.2:=by
 obtain⟨b,hb,e⟩:=Ro.mp hp
 cases q:h.get? b with
 |none=>rw[q] at e;cases e
 |some o=>
  rw[q] at e;have e':(b,o)=p:=Lu e;subst e';exact⟨hb,q⟩
theorem Inv.pinned{pins:List (Addr×LY)}{σ:St}{H:Hp}{s:Ka}{fp:List Addr}(I:Inv X pins σ H s)(hf:∀b∈fp,i3 X pins H b)(ho:∀b∈fp,∃o,s.heap.get? b=some o/\∀v,o.data≠.cell v):Inv X (pins++j7 fp s.heap) σ H s:=
 I.pins_of λp hp=>(KG.mp hp).elim (λz=>I.pin p (Kw _ z)) λz=>by
  obtain⟨hb,e⟩:=tK z;obtain⟨f0,f1,f2,_⟩:=hf p.1 hb;obtain⟨o,e',d⟩:=ho p.1 hb;rw[e] at e';cases e';exact⟨e,f0,f1,f2,d⟩
theorem Inv.unpinned{pins pl:List (Addr×LY)}{σ:St}{H:Hp}{s:Ka}(I:Inv X (pins++pl) σ H s):Inv X pins σ H s:=I.pins_of λp hp=>I.pin p (Kw _ (La _ hp))
theorem BV{iter:Le}{body:List Stmt}{wi:TI}{g:TG}{tb:TS}{pos:NW}(hp:Lh (KF X.prog X.w) X.A X.env X.xe)(hc:X.calm=true)(hi:PI X tg iter wi)(hg:PG X tg g)(hb:qT X body tb)
  (hs:∀x,Nl iter X.env x=Mz x:=by intro _;rfl):PS X (.For tg iter body [] pos) (DZ wi g tb):=by
 intro pins s σ H D I h;refine wpAny_For (bJ (hi pins s σ H _ I h) λv s1 h1=>bJ h1 λitv s2 h2=>?_) hs;obtain⟨it,fp,tn,J,H2,e,I2,T,st2,f2,W,⟨m0,w0⟩,turn⟩:=h2;subst e;have stat:∀{H':Hp},(∀b∈fp,H' b=none)->∀b∈fp,i3 X pins H' b:=λhn b hb=>⟨hn b hb,(f2 b hb).2⟩
 refine codeAny_forLoop_any (λn s'=>∃i σ' H',Inv X pins σ' H' s'/\tn i s'.heap/\(∀b∈fp,H' b=none)/\W i n σ' H') ?_ m0 ⟨0,σ,H2,I2,st2,λb hb=>(f2 b hb).1,w0⟩;rintro n s3 ⟨i,σ3,H3,I3,st3,fr3,w3⟩;rcases turn i n σ3 H3 w3 with⟨stop,qn⟩ | ⟨go,N,hN,step⟩
 ·refine Nj hp (bJ (T.done X Z Z Z hc i pins s3 σ3 H3 X.xe I3 (stat fr3) st3 stop) λr s4 ⟨hr,I4⟩=>?_);subst hr;exact OX ⟨σ3,H3,I4,qn⟩
 ·refine Nj hp (bJ (T.item X Z Z Z hc i pins s3 σ3 H3 X.xe I3 (stat fr3) st3 go) λr s4 ⟨u,hr,h4⟩=>?_);subst hr;refine Nj hp (bJ h4 λ_ s5 ⟨x,H5,I5,r5,y5,st5,fr5⟩=>?_);have I5':=I5.pinned (stat fr5) (T.obj _ _ st5);refine Nj hp (bJ (hg _ s5 σ3 H5 x u _ I5' r5 (step x H5 y5)) λ_ s6 ⟨σ6,H6,I6,q6⟩=>?_);refine Nj hp (bJ (hb _ s6 σ6 H6 _ I6 q6) λf s7 q7=>?_);have again:∀{σ7:St} {H7:Hp},Inv X (pins++j7 fp s5.heap) σ7 H7 s7->N σ7 H7->∃m,m<n/\∃i σ' H',Inv X pins σ' H' s7/\tn i s7.heap/\(∀b∈fp,H' b=none)/\W i m σ' H':=λ{σ7 H7} I7 n7=>by
   obtain⟨m',hm,w7⟩:=hN σ7 H7 n7;refine⟨m',hm,i+1,σ7,H7,I7.unpinned,T.keep _ _ _ st5 λb hb o e=>(I7.pin (b,o) (Kw _ (Kw _ (fR hb e)))).1,λb hb=>?_,w7⟩;obtain⟨o,e,d⟩:=T.obj _ _ st5 b hb;exact(I7.pin (b,o) (Kw _ (Kw _ (fR hb e)))).2.1
  cases f with
  |next=>obtain⟨σ7,H7,I7,n7⟩:=q7;exact again I7 n7
  |cont=>obtain⟨σ7,H7,I7,n7⟩:=q7;exact again I7 n7
  |brk=>obtain⟨σ7,H7,I7,q7⟩:=q7;exact⟨σ7,H7,I7.unpinned,q7⟩
  |ret v=>obtain⟨x7,σ7,H7,I7,r7,q7⟩:=q7;exact⟨x7,σ7,H7,I7.unpinned,r7,q7⟩
end
theorem cU{K:J5}{a:Addr}{xs:List V}{g:TG}{tb:TS}{D:js}{σ:St}{H:Hp}(Pv:Nat->St->Hp->Prop)(h0:Pv 0 σ H)(hl:∀i σ H,i≤xs.length->Pv i σ H->aO K H a xs)
  (hs:∀i x σ H,xs[i]?=some x->Pv i σ H->g x σ H λσ2 H2=>tb { D with nx:=Pv (i+1),ct:=Pv (i+1),bk:=D.nx} σ2 H2) (hd:∀σ H,Pv xs.length σ H->D.nx σ H) :
  ∃W:Nat->Nat->St->Hp->Prop,(∃m,W 0 m σ H)/\∀i m σ H,W i m σ H→
   ((yt K a).stop i H/\D.nx σ H)∨((yt K a).go i H/\∃N:St->Hp->Prop,(∀σ' H',N σ' H'->∃m',m'<m/\W (i+1) m' σ' H')/\∀x H',(yt K a).yld i H x H'->g x σ H' λσ2 H2=>tb { D with nx:=N,ct:=N,bk:=D.nx} σ2 H2):=by
 refine⟨λi m σ H=>m=xs.length-i/\i≤xs.length/\Pv i σ H,⟨xs.length,by simp,KJ _,h0⟩,?_⟩;rintro i m σ H ⟨rfl,hi,p⟩;have q:=hl i σ H hi p;by_cases hlt:i<xs.length
 ·refine .inr ⟨⟨xs,xs[i],q,by simp[hlt]⟩,Pv (i+1),λσ' H' p'=>⟨xs.length-(i+1),by omega,Z,hlt,p'⟩,λx H' y=>?_⟩;obtain⟨e,y⟩:=y;subst e;exact hs i x σ _ (y xs q) p
 ·have e:i=xs.length:=by omega
  subst e;exact .inl ⟨⟨xs,q,Kb _⟩,hd σ H p⟩
theorem iw{K:J5}{a:Addr}{xs:List V}{g:TG}{tb:TS}{D:js}{σ:St}{H:Hp}(Pv:Nat->St->Hp->Prop)(h0:Pv 0 σ H)(hl:∀i σ H,i≤xs.length->Pv i σ H->bH K H a xs)
  (hs:∀i x σ H,xs[i]?=some x->Pv i σ H->g x σ H λσ2 H2=>tb { D with nx:=Pv (i+1),ct:=Pv (i+1),bk:=D.nx} σ2 H2) (hd:∀σ H,Pv xs.length σ H->D.nx σ H) :
  ∃W:Nat->Nat->St->Hp->Prop,(∃m,W 0 m σ H)/\∀i m σ H,W i m σ H→
   ((yr K a).stop i H/\D.nx σ H)∨((yr K a).go i H/\∃N:St->Hp->Prop,(∀σ' H',N σ' H'->∃m',m'<m/\W (i+1) m' σ' H')/\∀x H',(yr K a).yld i H x H'->g x σ H' λσ2 H2=>tb { D with nx:=N,ct:=N,bk:=D.nx} σ2 H2):=by
 refine⟨λi m σ H=>m=xs.length-i/\i≤xs.length/\Pv i σ H,⟨xs.length,by simp,KJ _,h0⟩,?_⟩;rintro i m σ H ⟨rfl,hi,p⟩;have q:=hl i σ H hi p;by_cases hlt:i<xs.length
 ·refine .inr ⟨⟨xs,xs[i],q,by simp[hlt]⟩,Pv (i+1),λσ' H' p'=>⟨xs.length-(i+1),by omega,Z,hlt,p'⟩,λx H' y=>?_⟩;obtain⟨e,y⟩:=y;subst e;exact hs i x σ _ (y xs q) p
 ·have e:i=xs.length:=by omega
  subst e;exact .inl ⟨⟨xs,q,Kb _⟩,hd σ H p⟩
theorem cG{lo:Int}{n:Nat}{g:TG}{tb:TS}{D:js}{σ:St}{H:Hp}(Pv:Nat->St->Hp->Prop)(h0:Pv 0 σ H)
  (hs:∀i σ H,i<n->Pv i σ H->g (.int (lo+i)) σ H λσ2 H2=>tb { D with nx:=Pv (i+1),ct:=Pv (i+1),bk:=D.nx} σ2 H2) (hd:∀σ H,Pv n σ H->D.nx σ H) :
  ∃W:Nat->Nat->St->Hp->Prop,(∃m,W 0 m σ H)/\∀i m σ H,W i m σ H→
   ((Ar lo n).stop i H/\D.nx σ H)∨((Ar lo n).go i H/\∃N:St->Hp->Prop,(∀σ' H',N σ' H'->∃m',m'<m/\W (i+1) m' σ' H')/\∀x H',(Ar lo n).yld i H x H'->g x σ H' λσ2 H2=>tb { D with nx:=N,ct:=N,bk:=D.nx} σ2 H2):=by
 refine⟨λi m σ H=>m=n-i/\i≤n/\Pv i σ H,⟨n,by simp,KJ _,h0⟩,?_⟩;rintro i m σ H ⟨rfl,hi,p⟩;by_cases hlt:i<n
 ·refine .inr ⟨hlt,Pv (i+1),λσ' H' p'=>⟨n-(i+1),by omega,Z,hlt,p'⟩,λx H' y=>?_⟩;obtain⟨e,y⟩:=y;subst e y;exact hs i σ _ hlt p
 ·have e:i=n:=by omega
  subst e;exact .inl ⟨Kb _,hd σ H p⟩
end L2
namespace L2
open PySem PySem.Spec PyProof.Rows
abbrev R2:=V->V->Hp->VK->Prop
def fJ(X:Cx)(f:Value->Value->Sem Value)(r:R2):Prop:=
 ∀(pins:List (Addr×LY)) (s:Ka) (σ:St) (H:Hp) (x y:V) (v u:Value) (Q:VK),Inv X pins σ H s->aY x v->aY y u->r x y H Q→
  Kz (KF X.prog X.w) X.A (f v u) (EP X pins σ Q) X.xe s
def FN(X:Cx)(f:Value->Sem Value)(r:V->Hp->VK->Prop):Prop:=
 ∀(pins:List (Addr×LY)) (s:Ka) (σ:St) (H:Hp) (x:V) (v:Value) (Q:VK),Inv X pins σ H s->aY x v->r x H Q→
  Kz (KF X.prog X.w) X.A (f v) (EP X pins σ Q) X.xe s
def cM(X:Cx)(f:Value)(r:List V->Hp->VK->Prop):Prop:=
 ∀(pins:List (Addr×LY)) (s:Ka) (σ:St) (H:Hp) (xs:List V) (us:List Value) (Q:VK),Inv X pins σ H s->aZ xs us->r xs H Q→
  Kz (KF X.prog X.w) X.A (call f us) (EP X pins σ Q) X.xe s
def Jl(X:Cx)(r:V->Hp->(Bool->Hp->Prop)->Prop):Prop:=
 ∀(pins:List (Addr×LY)) (s:Ka) (σ:St) (H:Hp) (x:V) (v:Value) (Q:Bool->Hp->Prop),Inv X pins σ H s->aY x v->r x H Q→
  Kz (KF X.prog X.w) X.A (truthy v) (TP X pins σ Q) X.xe s
def yD(r:R2)(ta tb:TE):TE:=λσ H Q=>ta σ H λx H1=>tb σ H1 λy H2=>r x y H2 Q
def GV(r:V->Hp->VK->Prop)(ta:TE):TE:=λσ H Q=>ta σ H λx H1=>r x H1 Q
def rI(C:Int->Int->Prop)(g:Int->Int->V):R2:=λx y H Q=>∃i j,x=.int i/\y=.int j/\C i j/\Q (g i j) H
def AK(g:Int->Int->V):R2:=λx y H Q=>∃i j,x=.int i/\y=.int j/\Q (g i j) H
def rU(g:Int->V):V->Hp->VK->Prop:=λx H Q=>∃i,x=.int i/\Q (g i) H
section
variable {X:Cx}{a b c:Le}{ta tb tc:TE}{pos:NW}
theorem De(ha:PE X a ta)(hb:PE X b tb){pins:List (Addr×LY)}{s:Ka}{σ:St}{H:Hp}{R:V->V->Hp->Prop}(I:Inv X pins σ H s)
  (h:ta σ H λx H1=>tb σ H1 λy H2=>R x y H2) {Q:Value->Ka->Prop} {f:Value->Value->Sem Value}
  (hf:∀v u s2 x y H2,Inv X pins σ H2 s2->aY x v->aY y u->R x y H2->Kz (KF X.prog X.w) X.A (f v u) Q X.xe s2) :
  Kz (KF X.prog X.w) X.A (eval a X.env) (λv s₁=>Kz (KF X.prog X.w) X.A (eval b X.env) (λu s₂=>Kz (KF X.prog X.w) X.A (f v u) Q X.xe s₂) X.xe s₁) X.xe s:=by
 refine bJ (ha pins s σ H _ I h) λv s1 ⟨x,H1,I1,r1,q1⟩=>?_
 refine bJ (hb pins s1 σ H1 _ I1 q1) λu s2 ⟨y,H2,I2,r2,q2⟩=>?_
 exact hf v u s2 x y H2 I2 r1 r2 q2
theorem Ew(ho:fJ X (NK op) r)(ha:PE X a ta)(hb:PE X b tb):PE X (.BinOp a op b pos) (yD r ta tb):=by
 intro pins s σ H Q I h;exact wpAny_BinOp (De ha hb I h λv u s2 x y H2 I2 rx ry q=>ho pins s2 σ H2 x y v u Q I2 rx ry q)
theorem Ev(ho:FN X (unaryOp op) r)(ha:PE X a ta):PE X (.UnaryOp op a pos) (GV r ta):=by
 intro pins s σ H Q I h;exact UnaryOp_ (bJ (ha pins s σ H _ I h) λv s1 ⟨x,H1,I1,r1,q1⟩=>ho pins s1 σ H1 x v Q I1 r1 q1)
theorem DB{f:Value->Value->Sem Value}{C:Int->Int->Prop}{g:Int->Int->Int}
  (rule:∀(i j:Int) (t u:Tx) (s:Ka) (Q:Value->Ka->Prop) (E:Value->Ka->Prop),C i j->Q (.int (g i j) s.toks) { s with toks:=s.toks+1}->Kz (KF X.prog X.w) X.A (f (.int i t) (.int j u)) Q E s) :
  fJ X f (rI C λi j=>.int (g i j)):=by
 intro pins s σ H x y v u Q I rx ry h;obtain⟨i,j,rfl,rfl,hc,q⟩:=h;obtain⟨t,rfl⟩:=rx;obtain⟨t',rfl⟩:=ry;exact rule i j t t' s _ _ hc ⟨.int (g i j),H,I.tok _,⟨_,Z⟩,q⟩
theorem EC{f:Value->Value->Sem Value}{g:Int->Int->Int}
  (rule:∀(i j:Int) (t u:Tx) (s:Ka) (Q:Value->Ka->Prop) (E:Value->Ka->Prop),Q (.int (g i j) s.toks) { s with toks:=s.toks+1}->Kz (KF X.prog X.w) X.A (f (.int i t) (.int j u)) Q E s) :
  fJ X f (AK λi j=>.int (g i j)):=by
 intro pins s σ H x y v u Q I rx ry h;obtain⟨i,j,rfl,rfl,q⟩:=h;obtain⟨t,rfl⟩:=rx;obtain⟨t',rfl⟩:=ry;exact rule i j t t' s _ _ ⟨.int (g i j),H,I.tok _,⟨_,Z⟩,q⟩
theorem zL{f:Value->Value->Sem Value}{g:Int->Int->Bool}
  (rule:∀(i j:Int) (t u:Tx) (s:Ka) (Q:Value->Ka->Prop) (E:Value->Ka->Prop),Q (.bool (g i j)) s->Kz (KF X.prog X.w) X.A (f (.int i t) (.int j u)) Q E s) :
  fJ X f (AK λi j=>.bl (g i j)):=by
 intro pins s σ H x y v u Q I rx ry h;obtain⟨i,j,rfl,rfl,q⟩:=h;obtain⟨t,rfl⟩:=rx;obtain⟨t',rfl⟩:=ry;exact rule i j t t' s _ _ ⟨.bl (g i j),H,I,Z,q⟩
def GT(i j:Int):Prop:=0<j/\j<1073741824
def Im(i j:Int):Prop:=j≠0/\j.natAbs<1073741824
def GS(i j:Int):Prop:=0≤j/\j≤1000000/\i.natAbs<2^64
def Dx(i j:Int):Prop:=(-(2^64)<i/\i<2^64)∨(-(2^64)<j/\j<2^64)
theorem Dx.ok(h:Dx i j):IntMulOk i j:=by
 rcases h with⟨h1,h2⟩ | ⟨h1,h2⟩
 ·exact .of_left (intBits_le_64 h1 h2)
 ·exact .of_right (intBits_le_64 h1 h2)
theorem cf:fJ X (NK .Add) (AK λi j=>.int (i+j)):=EC λ_ _ _ _ _ _ _ q=>add_int q
theorem de:fJ X (NK .Sub) (AK λi j=>.int (i-j)):=EC λ_ _ _ _ _ _ _ q=>sub_int q
theorem g9:fJ X (NK .Mult) (rI Dx λi j=>.int (i*j)):=DB λ_ _ _ _ _ _ _ hc q=>mul_int q hc.ok
theorem rJ:fJ X (NK .FloorDiv) (rI GT λi j=>.int (i/j)):=DB λi j _ _ _ _ _ hc q=>by
 have h1:(0:Int)<j:=hc.1;have h2:j<1073741824:=hc.2;exact floordiv_int (by omega) (by rw[Pf i (by omega)];exact q) (.inl (PyProof.noPylong_small (by omega)))
theorem gf:fJ X (NK .Mod) (rI (λ_ j=>0<j) λi j=>.int (i%j)):=DB λi j _ _ _ _ _ hc q=>by
 have h1:(0:Int)<j:=hc;exact mod_int' (by omega) (by rw[Int.fmod_eq_emod_of_nonneg i (by omega)];exact q)
theorem Ci:fJ X (NK .Pow) (rI GS λi j=>.int (i^j.toNat)):=DB λ_ _ _ _ _ _ _ hc q=>pow_int_small hc.1 hc.2.1 hc.2.2 q
theorem Ix{f:Value->Sem Value}{g:Int->Int}
  (rule:∀(i:Int) (t:Tx) (s:Ka) (Q:Value->Ka->Prop) (E:Value->Ka->Prop),Q (.int (g i) s.toks) { s with toks:=s.toks+1}->Kz (KF X.prog X.w) X.A (f (.int i t)) Q E s) :
  FN X f (rU λi=>.int (g i)):=by
 intro pins s σ H x v Q I rx h;obtain⟨i,rfl,q⟩:=h;obtain⟨t,rfl⟩:=rx;exact rule i t s _ _ ⟨.int (g i),H,I.tok _,⟨_,Z⟩,q⟩
theorem iP:FN X (unaryOp .USub) (rU λi=>.int (-i)):=Ix λ_ _ _ _ _ q=>neg_int q
end
def Eb:V->V->Bool
 | .non,.non=>true | .non,.int _=>true | .int _,.non=>true | .non,.bl _=>true | .bl _,.non=>true | .non,.str _=>true | .str _,.non=>true
 | .int _,.int _=>true | .bl _,.bl _=>true | .str _,.str _=>true | .byt _,.byt _=>true
 | .int _,.str _=>true | .str _,.int _=>true | .bl _,.str _=>true | .str _,.bl _=>true
 |_,_=>false
def Ja:R2:=λx y H Q=>Eb x y=true/\Q (.bl (decide (x=y))) H
def IU:R2:=λx y H Q=>Eb x y=true/\Q (.bl (!decide (x=y))) H
theorem rY:decide (V.int i=V.int j)=(i==j):=by
 rw[L1];simp
theorem xR:decide (V.bl i=V.bl j)=(i==j):=by
 rw[L1];simp
theorem rX:decide (V.str i=V.str j)=(i==j):=by
 rw[L1];simp
theorem rZ:decide (V.byt i=V.byt j)=(i.toList==j.toList):=by
 rw[L1]
 cases i
 cases j
 simp
section
variable {X:Cx}{a b c:Le}{ta tb tc:TE}{pos:NW}
theorem bn{pins:List (Addr×LY)}{σ:St}{H:Hp}{s:Ka}{Q:VK}{k k':Bool}(I:Inv X pins σ H s)(q:Q (.bl k) H)(e:k=k'):EP X pins σ Q (.bool k') s:=by
 subst e;exact⟨.bl k,H,I,Z,q⟩
theorem oG:fJ X (LB .Eq) Ja:=by
 intro pins s σ H x y v u Q I rx ry h;obtain⟨hs,q⟩:=h
 cases x with
 |non=>
  cases rx
  cases y with
  |non=>cases ry;exact PySem.EqNone.eq_none_none (bn I q (by simp))
  |bl j=>cases ry;exact PySem.EqNone.eq_none_bool (bn I q (by simp))
  |int j=>obtain⟨t',rfl⟩:=ry;exact PySem.EqNone.eq_none_int (bn I q (by simp))
  |str j=>obtain⟨t',rfl⟩:=ry;exact PySem.EqNone.eq_none_str (bn I q (by simp))
  |_=>exact absurd (show false=true from hs) Kj
 |bl i=>
  cases rx
  cases y with
  |non=>cases ry;exact PySem.EqNone.eq_bool_none (bn I q (by simp))
  |bl j=>cases ry;exact eq_bool (bn I q xR)
  |str j=>obtain⟨t',rfl⟩:=ry;exact PySem.EqMixed.eq_bool_str (bn I q (by simp))
  |_=>exact absurd (show false=true from hs) Kj
 |int i=>
  obtain⟨t,rfl⟩:=rx
  cases y with
  |non=>cases ry;exact PySem.EqNone.eq_int_none (bn I q (by simp))
  |int j=>obtain⟨t',rfl⟩:=ry;exact eq_int (bn I q rY)
  |str j=>obtain⟨t',rfl⟩:=ry;exact PySem.EqMixed.eq_int_str (bn I q (by simp))
  |_=>exact absurd (show false=true from hs) Kj
 |str i=>
  obtain⟨t,rfl⟩:=rx
  cases y with
  |non=>cases ry;exact PySem.EqNone.eq_str_none (bn I q (by simp))
  |bl j=>cases ry;exact PySem.EqMixed.eq_str_bool (bn I q (by simp))
  |int j=>obtain⟨t',rfl⟩:=ry;exact PySem.EqMixed.eq_str_int (bn I q (by simp))
  |str j=>obtain⟨t',rfl⟩:=ry;exact eq_str (bn I q rX)
  |_=>exact absurd (show false=true from hs) Kj
 |byt i=>
  obtain⟨t,rfl⟩:=rx
  cases y with
  |byt j=>obtain⟨t',rfl⟩:=ry;exact PySem.W.eq_bytes (bn I q rZ)
  |_=>exact absurd (show false=true from hs) Kj
 |_=>cases y<;>exact absurd (show false=true from hs) Kj
theorem oF:fJ X (LB .NotEq) IU:=by
 intro pins s σ H x y v u Q I rx ry h;obtain⟨hs,q⟩:=h
 cases x with
 |non=>
  cases rx
  cases y with
  |non=>cases ry;exact PySem.EqNone.ne_none_none (bn I q (by simp))
  |bl j=>cases ry;exact PySem.EqNone.ne_none_bool (bn I q (by simp))
  |int j=>obtain⟨t',rfl⟩:=ry;exact PySem.EqNone.ne_none_int (bn I q (by simp))
  |str j=>obtain⟨t',rfl⟩:=ry;exact PySem.EqNone.ne_none_str (bn I q (by simp))
  |_=>exact absurd (show false=true from hs) Kj
 |bl i=>
  cases rx
  cases y with
  |non=>cases ry;exact PySem.EqNone.ne_bool_none (bn I q (by simp))
  |bl j=>cases ry;exact ne_bool (bn I q (congrArg not xR))
  |str j=>obtain⟨t',rfl⟩:=ry;exact PySem.EqMixed.ne_bool_str (bn I q (by simp))
  |_=>exact absurd (show false=true from hs) Kj
 |int i=>
  obtain⟨t,rfl⟩:=rx
  cases y with
  |non=>cases ry;exact PySem.EqNone.ne_int_none (bn I q (by simp))
  |int j=>obtain⟨t',rfl⟩:=ry;exact ne_int (bn I q (congrArg not rY))
  |str j=>obtain⟨t',rfl⟩:=ry;exact PySem.EqMixed.ne_int_str (bn I q (by simp))
  |_=>exact absurd (show false=true from hs) Kj
 |str i=>
  obtain⟨t,rfl⟩:=rx
  cases y with
  |non=>cases ry;exact PySem.EqNone.ne_str_none (bn I q (by simp))
  |bl j=>cases ry;exact PySem.EqMixed.ne_str_bool (bn I q (by simp))
  |int j=>obtain⟨t',rfl⟩:=ry;exact PySem.EqMixed.ne_str_int (bn I q (by simp))
  |str j=>obtain⟨t',rfl⟩:=ry;exact ne_str (bn I q (congrArg not rX))
  |_=>exact absurd (show false=true from hs) Kj
 |byt i=>
  obtain⟨t,rfl⟩:=rx
  cases y with
  |byt j=>obtain⟨t',rfl⟩:=ry;exact PySem.W.ne_bytes (bn I q (congrArg not rZ))
  |_=>exact absurd (show false=true from hs) Kj
 |_=>cases y<;>exact absurd (show false=true from hs) Kj
theorem fV:fJ X (LB .Lt) (AK λi j=>.bl (decide (i<j))):=zL λ_ _ _ _ _ _ _ q=>lt_int q
theorem lE:fJ X (LB .LtE) (AK λi j=>.bl (decide (i≤j))):=zL λ_ _ _ _ _ _ _ q=>le_int q
theorem ip:fJ X (LB .Gt) (AK λi j=>.bl (decide (j<i))):=zL λ_ _ _ _ _ _ _ q=>gt_int q
theorem wF:fJ X (LB .GtE) (AK λi j=>.bl (decide (j≤i))):=zL λ_ _ _ _ _ _ _ q=>ge_int q
theorem zI:fJ X (LB .IsNot) (λx y H Q=>y=.non/\Q (.bl (!decide (x=.non))) H):=by
 intro pins s σ H x y v u Q I rx ry h;obtain⟨rfl,q⟩:=h
 cases ry
 refine isnot_none_gen (bn I q ?_)
 cases x<;>first
  | (cases rx;rfl)
  | (obtain⟨t,rfl⟩:=rx;rfl)
def Hr:HO->Bool
 | .lst _=>true
 | .ins _ _ _=>true
 |_=>false
theorem aU(b:Le){op:Su}(h:op≠.In:=by decide)(h2:op≠.NotIn:=by decide):Nr op b=false:=by
 have e1:(op==Su.In)=false:=by cases op<;>first|rfl|exact absurd Z h
 have e2:(op==Su.NotIn)=false:=by cases op<;>first|rfl|exact absurd Z h2
 cases b<;>simp[Nr,e1,e2]
theorem zu(ho:fJ X (LB op) r)(ha:PE X a ta)(hb:PE X b tb)(hm:Nr op b=false):PE X (.Compare a [op] [b] pos) (yD r ta tb):=by
 intro pins s σ H Q I h;exact wpAny_Compare1 (De ha hb I h λv u s2 x y H2 I2 rx ry q=>ho pins s2 σ H2 x y v u Q I2 rx ry q) hm
def nT(t:TE):TT:=λσ H Q=>t σ H λx H'=>∃k,x=.bl k/\Q k H'
theorem yY(ho:fJ X (LB op) r)(ha:PE X a ta)(hb:PE X b tb)(hm:Nr op b=false):PT X (.Compare a [op] [b] pos) (nT (yD r ta tb)):=by
 intro pins s σ H Q I h;refine Qz (bJ (ha pins s σ H _ I h) λv s1 ⟨x,H1,I1,r1,q1⟩=>bJ (hb pins s1 σ H1 _ I1 q1) λu s2 ⟨y,H2,I2,r2,q2⟩=>
  bJ (ho pins s2 σ H2 x y v u _ I2 r1 r2 q2) λc s3 ⟨z,H3,I3,r3,k,e,q3⟩=>?_) hm
 subst e
 cases r3
 exact Mc ⟨H3,I3,q3⟩
def mh(r r':R2)(ta tb tc:TE):TE:=λσ H Q=>ta σ H λx H1=>tb σ H1 λy H2=>r x y H2 λz H3=>∃k,z=.bl k∧
 (if k=true then tc σ H3 λw' H4=>r' y w' H4 Q else Q (.bl false) H3)
theorem wD{op op':Su}{r r':R2}(ho:fJ X (LB op) r)(ho':fJ X (LB op') r')(ha:PE X a ta)(hb:PE X b tb)(hc:PE X c tc)
  (hm:Si [op,op'] [b,c]=false:=by with_unfolding_all rfl):PE X (.Compare a [op,op'] [b,c] pos) (mh r r' ta tb tc):=by
 intro pins s σ H Q I h;refine Compare_chain (bJ (ha pins s σ H _ I h) λv s1 ⟨x,H1,I1,r1,q1⟩=>chain_link (bJ (hb pins s1 σ H1 _ I1 q1) λu s2 ⟨y,H2,I2,r2,q2⟩=>
  bJ (ho pins s2 σ H2 x y v u _ I2 r1 r2 q2) λd s3 ⟨z,H3,I3,r3,k,e,q3⟩=>?_)) hm
 subst e
 cases r3
 refine Mc ?_
 cases k with
 |false=>exact ite_ff ⟨.bl false,H3,I3,Z,q3⟩
 |true=>exact ite_tt (chain_last (bJ (hc pins s3 σ H3 _ I3 q3) λw' s4 ⟨z',H4,I4,r4,q4⟩=>ho' pins s4 σ H4 y z' u w' Q I4 r2 r4 q4))
theorem vY{op op':Su}{r r':R2}(ho:fJ X (LB op) r)(ho':fJ X (LB op') r')(ha:PE X a ta)(hb:PE X b tb)(hc:PE X c tc)
  (hm:Si [op,op'] [b,c]=false:=by with_unfolding_all rfl):PT X (.Compare a [op,op'] [b,c] pos) (nT (mh r r' ta tb tc)):=by
 intro pins s σ H Q I h;refine isTrue_chain (bJ (ha pins s σ H _ I h) λv s1 ⟨x,H1,I1,r1,q1⟩=>test_link (bJ (hb pins s1 σ H1 _ I1 q1) λu s2 ⟨y,H2,I2,r2,q2⟩=>
  bJ (ho pins s2 σ H2 x y v u _ I2 r1 r2 q2) λd s3 ⟨z,H3,I3,r3,k,e,q3⟩=>?_)) hm
 subst e
 cases r3
 refine Mc ?_
 cases k with
 |false=>
  obtain⟨k',e',q'⟩:=q3
  cases e'
  exact ite_ff ⟨H3,I3,q'⟩
 |true=>
  refine ite_tt (test_last (bJ (hc pins s3 σ H3 _ I3 q3) λw' s4 ⟨z',H4,I4,r4,q4⟩=>bJ (ho' pins s4 σ H4 y z' u w' _ I4 r2 r4 q4) λd' s5 ⟨z2,H5,I5,r5,k2,e2,q5⟩=>?_));subst e2
  cases r5
  exact Mc ⟨H5,I5,q5⟩
def Jk(K:J5)(x:V)(H:Hp)(k:Bool):Prop:=
 match x with
 | .non=>k=false
 | .bl b=>k=b
 | .int i=>k=(i != 0)
 | .str y=>y.length≤sizeLine/\k=((y.length:Int) != 0)
 | .byt y=>y.size≤sizeLine/\k=((y.size:Int) != 0)
 | .ref p=>(∃xs,aO K H p xs/\k=!xs.isEmpty)∨(∃xs,bH K H p xs/\k=!xs.isEmpty)∨∃kvs,H p=some (.dK kvs)/\k=!kvs.isEmpty
 |_=>False
theorem kh:(sizeLine:Nat)<2^63:=by rw[MO];decide
def Fk(b:Le):Prop:=∀o i,Py b false o i=Tv [o,i] (O4 o i)
theorem fU(r:aZ [x] us):∃u,us=[u]/\aY x u:=by
 cases r with
 |cons r1 r2=>cases r2;exact⟨_,Z,r1⟩
theorem qX(r:aZ [x,y] us):∃u w',us=[u,w']/\aY x u/\aY y w':=by
 cases r with
 |cons r1 r2=>
  cases r2 with
  |cons r3 r4=>cases r4;exact⟨_,_,Z,r1,r3⟩
theorem kC:cM X (.builtin "abs") (λxs H Q=>∃i,xs=[.int i]/\Q (.int (if i<0 then -i else i)) H):=by
 intro pins s σ H xs us Q I r h;obtain⟨i,rfl,q⟩:=h;obtain⟨u,rfl,t,rfl⟩:=fU r;exact call_abs_int λu tk=>⟨.int (if i<0 then -i else i),H,I.tok _,⟨_,Z⟩,q⟩
theorem ue(hc:X.calm=true):cM X (.builtin "min") (λxs H Q=>∃i j,xs=[.int i,.int j]/\Q (.int (if j<i then j else i)) H):=by
 intro pins s σ H xs us Q I r h;obtain⟨i,j,rfl,q⟩:=h;obtain⟨u,w',rfl,⟨t,rfl⟩,⟨t',rfl⟩⟩:=qX r;refine min_two_ints (I.ok.hd hc) λh' tk k=>⟨_,H,I.kept k,?_,q⟩
 by_cases hj:j<i
 ·rw[if_pos hj,if_pos hj];exact⟨_,Z⟩
 ·rw[if_neg hj,if_neg hj];exact⟨_,Z⟩
def Jt(K:J5)(x:V)(H:Hp)(n:Nat):Prop:=
 match x with
 | .str y=>y.length≤sizeLine/\n=y.length
 | .byt y=>y.size≤sizeLine/\n=y.size
 | .ref p=>(∃xs,aO K H p xs/\n=xs.length)∨∃xs,bH K H p xs/\n=xs.length
 |_=>False
end
end L2
namespace L2
open PySem PySem.Spec PyProof.Rows
structure qU(h:Kp)(x dx C:Addr)(mA:K1->Option Value):Prop where
 obj:h.get? x=some (MV C dx)
 ns:h.Ns1 dx mA
 ne:dx≠x
theorem tP{h:Kp}(n:h.Ns1 dx mA):∃od,h.get? dx=some od/\∀name,Pg name od=some (mA name):=by
 obtain⟨o,es,ep,ho,hd,hk,_,hm⟩:=n;refine⟨o,ho,λname=>?_⟩;have e:=hm name;unfold nsFind findBy at e;rw[←Array.find?_toList] at e;unfold Pg;rw[hd];dsimp only
 split
 ·rename_i y q;rw[q] at e;exact congrArg some e
 ·rename_i q;rw[q] at e;have a:es.toList.any (·.refKey)=false:=by
   rw[List.any_eq_false];intro y hy;obtain⟨z,t,hkey⟩:=hk y (Array.mem_toList_iff.mp hy);simp[Q2.refKey,hkey]
  have a':¬es.toList.any (·.refKey)=true:=by rw[a];exact Kj
  rw[if_neg a'];exact congrArg some e
theorem qU.look(I:qU h x dx C mA):∃od,PySem.W.InstAt h x (MV C dx) C (some od)/\∀name,Pg name od=some (mA name):=
 let ⟨od,ho,hl⟩:=tP I.ns
 ⟨od,⟨I.obj,Z,Z,ho⟩,hl⟩
section
variable {prog:KZ}{w:Lk}{A:K3}{E:Value->Ka->Prop}{s:Ka}{K:J5}{x dx C f:Addr}{mA:K1->Option Value}{name:K1}{v:Value}
theorem zY(X:K.In s.heap)(I:qU s.heap x dx C mA)(hg:OJ K C name=true)(hh:OA K C=true)
  (ha:Lp K (.ref C) name=some none) (hv:mA name=some v) (hv':Sj v=true) (h:Q v { s with toks:=s.toks+1}):
  Kz (KF prog w) A (getAttr (.ref x) name expr) Q E s:=by
 obtain⟨od,J,hl⟩:=I.look;exact PySem.W.get_value X J (O3 hg).1 (PySem.W.findObj_own hh ha Z (by rw[hl,hv])) hv' h
theorem xz(X:K.In s.heap)(I:qU s.heap x dx C mA)(hg:OJ K C name=true)
  (hf:Lp K (.ref C) name=some (some (.ref f))) (ht:O5 K (.ref f)=true) (hv:mA name=none) (h:Q (.ref f,[.ref x]) s):
  Kz (KF prog w) A (P3 (.ref x) name pl) Q E s:=by
 obtain⟨od,J,hl⟩:=I.look;exact PySem.W.method_fn X J (O3 hg).1 (O3 hg).2 hf (beq_iff_eq.mp ht) (by show(Pg name od).map (·.isSome)=some false;rw[hl,hv];rfl) h
theorem yN(X:K.In s.heap)(I:qU s.heap x dx C mA)
  (hs:Lp K (.ref C) "__setattr__"=some (some (.builtin "object.__setattr__"))) (hp:RD K C=true) (ht:Qw K C name=some none) (hh:OA K C=true)
  (hw:Qj mA ns) (hsz:ns.length≤sizeLine)
  (h:∀h',qU h' x dx C (λy=>if y=name then some v else mA y)->LH dx s.heap h'->Q () { s with heap:=h',toks:=s.toks+2}):
  Kz (KF prog w) A (setAttr (.ref x) name v) Q E s:=by
 obtain⟨od,J,hl⟩:=I.look;refine PySem.W.set_plain X J hs (PySem.W.osa_open (s:={ s with toks:=s.toks+1}) (r:=none) X J hp ht λb=>?_);obtain⟨cd,hc,hd'⟩:=PySem.W.any_some hh;have hx:s.heap.get? x=some ⟨.ref C,some dx,.plain,#[]⟩:=I.obj;refine J8 (wpAny_pure (J8 (J8 (wpAny_loadPart hx (J8 (PySem.W.Looks.here (s:={ s with toks:=s.toks+1}) (PySem.W.looks_clsIn X hc) ?_))))));rw[hd'];refine wpAny_pure (a:=some dx) (J8 (wpAny_pure (J8 ?_)));refine wpAny_nsSet1 (s:={ s with toks:=s.toks+1}) I.ns λh' hn2 hs2=>?_
 obtain⟨oD,esD,epD,hoD,hdD,hcD⟩:=hn2.count (Qj.cons name v hw);refine J8 (wpAny_lookBehind hoD (by rw[hdD];exact pastItsLine_dict (K5 hcD (by rw[Lb];omega))) ?_);exact wpAny_pure (h _ ⟨(hs2.2 _ (M5 I.ne)).trans I.obj,hn2,I.ne⟩ hs2)
theorem wW(X:K.In s.heap)(hm:SE K C=true)
  (hi:Lp K (.ref C) "__init__"=some (some (.ref f))) (hf:SO K (.ref f)=some (.type "function"))
  (h:OB (KF prog w) (A.under (.builtin "type.__call__" ⟨.ref C:: vs,kw⟩)) (.call (.ref f) ⟨.ref (s.heap.objs.size+1):: vs,kw⟩) (PySem.W.InitBack (s.heap.objs.size+1) R)
   { s with heap:=(s.heap.push Md).push (MV C s.heap.objs.size)}):
  OB (KF prog w) A (.call (.ref C) ⟨vs,kw⟩) R s:=by
 obtain⟨hh,g,d,t,os⟩:=s;exact PySem.W.make_core (PySem.W.makes_of X hm) (PySem.W.looks_findIn X hi) (λself=>PySem.W.bind_fn X self hf) (.inl Z) h
end
def eW(f:K1)(v:V):List (K1×V)->List (K1×V)
 | []=>[(f,v)]
 | (g,x)::r=>if g=f then(g,v)::r else(g,x)::eW f v r
theorem i7(f g:K1)(v:V):∀fs:List (K1×V),(eW f v fs).lookup g=if g=f then some v else fs.lookup g
 | []=>by
  show Ot g [(f,v)]=_;by_cases h:g=f
  ·have hb:(g==f)=true:=beq_iff_eq.mpr h;simp only[Ot,hb,if_pos h]
  ·have hb:(g==f)=false:=beq_eq_false_iff_ne.mpr h;simp only[Ot,hb,if_neg h]
 | (k,x)::r=>by
  have ih:=i7 f g v r;rw[show eW f v ((k,x)::r)=(if k=f then(k,v)::r else(k,x)::eW f v r) from Z];by_cases hk:k=f
  ·rw[if_pos hk];by_cases h:g=k
   ·have hb:(g==k)=true:=beq_iff_eq.mpr h;simp only[Ot,hb,if_pos (h.trans hk)]
   ·have hb:(g==k)=false:=beq_eq_false_iff_ne.mpr h;simp only[Ot,hb,if_neg (λe:g=f=>h (e.trans hk.symm))]
  ·rw[if_neg hk];by_cases h:g=k
   ·have hb:(g==k)=true:=beq_iff_eq.mpr h;simp only[Ot,hb,if_neg (λe:g=f=>hk (h.symm.trans e))]
   ·have hb:(g==k)=false:=beq_eq_false_iff_ne.mpr h;simp only[Ot,hb];exact ih
theorem iU(f:K1)(v:V):∀fs:List (K1×V),f∈(eW f v fs).map (·.1)/\∀g,g∈fs.map (·.1)->g∈(eW f v fs).map (·.1)
 | []=>⟨by simp[eW],λg h=>by simp at h⟩
 | (k,x)::r=>by
  obtain⟨i1,i2⟩:=iU f v r;rw[show eW f v ((k,x)::r)=(if k=f then(k,v)::r else(k,x)::eW f v r) from Z];by_cases hk:k=f
  ·rw[if_pos hk];subst hk;exact⟨by simp,λg h=>by simpa using h⟩
  ·rw[if_neg hk];refine⟨?_,λg h=>?_⟩
   ·rw[KH];exact Km _ i1
   ·rw[KH] at h ⊢;rcases Kn.mp h with e|e
    ·exact Kn.mpr (.inl e)
    ·exact Km _ (i2 g e)
theorem i9(f:K1)(v:V):∀fs:List (K1×V),(eW f v fs).length≤fs.length+1
 | []=>by simp[eW]
 | (k,x)::r=>by
  have ih:=i9 f v r;rw[show eW f v ((k,x)::r)=(if k=f then(k,v)::r else(k,x)::eW f v r) from Z];by_cases hk:k=f
  ·rw[if_pos hk,Lb,Lb];omega
  ·rw[if_neg hk,Lb,Lb];omega
theorem fT.some_of(r:fT (some v) o):∃u,o=some u/\aY v u:=by
 cases o with
 |none=>exact(show False from r).elim
 |some u=>exact⟨u,Z,r⟩
theorem fT.none_of(r:fT none o):o=none:=by
 cases o with
 |none=>rfl
 |some u=>exact(show False from r).elim
theorem tW(r:aY v u):Sj u=true:=by
 cases v with
 |non=>cases(show u=NX from r);rfl
 |bl b=>cases(show u=Om b from r);rfl
 |int i=>obtain⟨t,e⟩:=(show ∃t,u=Mf i t from r);cases e;rfl
 |str x=>obtain⟨t,e⟩:=(show ∃t,u=P0 x t from r);cases e;rfl
 |byt b=>obtain⟨t,e⟩:=(show ∃t,u=Value.bytes b t from r);cases e;rfl
 |flt b=>obtain⟨t,e⟩:=(show ∃t,u=Ss b t from r);cases e;rfl
 |ref a=>cases(show u=K7 a from r);rfl
 |ty n=>cases(show u=Mp n from r);rfl
section
variable {P:KZ}{w:Lk}{H H':Hp}{h h':Kp}{a C dx:Addr}{fs fs':List (K1×V)}
theorem jC(hok:gS P w H h)(e:H a=some (.ins C dx fs)):∃mA,qU h a dx C mA/\(∀f,fT (fs.lookup f) (mA f))/\Qj mA (fs.map (·.1))/\fs.length≤1000/\H dx=some (.own a):=by
 obtain⟨d,z,ne,ob,mA,n,r,q⟩:=(show bo P w H h a (.ins C dx fs) from hok a _ e);exact⟨mA,⟨ob,n,ne⟩,r,q,z,d⟩
end
structure qV(K:J5)(C:Addr):Prop where
 pg:OJ K C K1.empty=true
 hd:OA K C=true
 po:RD K C=true
 sa:Lp K (.ref C) "__setattr__"=some (some (.builtin "object.__setattr__"))
theorem qV.get{K:J5}{C:Addr}(c:qV K C)(f:K1):OJ K C f=true:=c.pg
def cS(K:J5)(C:Addr)(f:K1):Prop:=Lp K (.ref C) f=some none
theorem cS.taker{K:J5}{C:Addr}{f:K1}(n:cS K C f):Qw K C f=some none:=by
 unfold Qw;rw[show Lp K (.ref C) f=some none from n];rfl
structure JF(K:J5)(C:Addr)(f:K1)(v:V)(u:Value):Prop where
 at_:Lp K (.ref C) f=some (some u)
 rel:aY v u
 get:Pz K u "__get__"=some none
 cp:PySem.W.copiedNames.contains f=false
structure iK(K:J5)(C:Addr)(m:K1)(f:Addr):Prop where
 at_:Lp K (.ref C) m=some (some (.ref f))
 fn:O5 K (.ref f)=true
 kp:Mr K (.ref f)=true
section
variable {X:Cx}{pins:List (Addr×LY)}{σ:St}{H:Hp}{s:Ka}{a C dx:Addr}{fs:List (K1×V)}{f:K1}{v:V}{A:K3}{E:Value->Ka->Prop}
theorem qB(I:Inv X pins σ H s)(e:H a=some (.ins C dx fs))(c:qV X.K C)(n:cS X.K C f)(l:fs.lookup f=some v)
  (h:∀u s',Inv X pins σ H s'->aY v u->Q u s'):Kz (KF X.prog X.w) A (getAttr (.ref a) f b) Q E s:=by
 obtain⟨mA,O,r,_,_,_⟩:=jC I.hok e;obtain⟨u,hu,ru⟩:=fT.some_of (v:=v) (o:=mA f) (by rw[←l];exact r f);exact zY I.kIn O (c.get f) c.hd n hu (tW ru) (h u _ (I.tok _) ru)
theorem kl(I:Inv X pins σ H s)(e:H a=some (.ins C dx fs))(c:qV X.K C)(k:iK X.K C m g)(l:fs.lookup m=none)
  (h:Q (.ref g,[.ref a]) s):Kz (KF X.prog X.w) A (P3 (.ref a) m pl) Q E s:=by
 obtain⟨mA,O,r,_,_,_⟩:=jC I.hok e;have hn:mA m=none:=fT.none_of (by rw[←l];exact r m);exact xz I.kIn O (c.get m) k.at_ k.fn hn h
theorem pX(I:Inv X pins σ H s)(e:H a=some (.ins C dx fs))(c:qV X.K C)(n:cS X.K C f)(hl:fs.length<1000)(ry:aY y u)
  (h:∀s',Inv X pins σ (av H a (.ins C dx (eW f y fs))) s'->Q () s'):Kz (KF X.prog X.w) A (setAttr (.ref a) f u) Q E s:=by
 obtain⟨mA,O,r,wi,_,ho⟩:=jC I.hok e;have hz:(fs.map (·.1)).length≤sizeLine:=by rw[J7,MO];omega
 refine yN I.kIn O c.sa c.po n.taker c.hd wi hz λh' O' sb=>h _ ?_
 have hd:∃o,h'.get? dx=some o:=let ⟨o,_,_,e',_⟩:=O'.ns;⟨o,e'⟩;refine I.write (x:=a) (e:=dx) (by rw[e];exact MB) (.inr ho) (λb q hb z=>(sb.2 b hb).trans z) hd ?_;refine⟨by rw[ak O.ne];exact ho,?_,O.ne,O'.obj,_,O'.ns,λg=>?_,λg hg=>?_⟩
 ·have:=i9 f y fs;omega
 ·show fT ((eW f y fs).lookup g) (if g=f then some u else mA g);rw[i7];by_cases q:g=f
  ·rw[if_pos q,if_pos q];exact ry
  ·rw[if_neg q,if_neg q];exact r g
 ·by_cases q:g=f
  ·rw[q];exact(iU f y fs).1
  ·refine(iU f y fs).2 g (wi g λz=>hg ?_);show(if g=f then some u else mA g)=none;rw[if_neg q];exact z
theorem Inv.made(I:Inv X pins σ H s):Inv X pins σ (av (av H s.heap.objs.size (.own (s.heap.objs.size+1))) (s.heap.objs.size+1) (.ins C s.heap.objs.size []))
  { s with heap:=(s.heap.push Md).push (MV C s.heap.objs.size)}:=by
 have e1:(s.heap.push Md).get? s.heap.objs.size=some Md:=Kq s.heap Z;have e2:((s.heap.push Md).push (MV C s.heap.objs.size)).get? (s.heap.objs.size+1)=some (MV C s.heap.objs.size):=by
  have:=Kq (s.heap.push Md) (o:=MV C s.heap.objs.size) Z
  rwa [MP] at this
 have e3:(s.heap.push Md).Ns s.heap.objs.size (λ_=>none):=⟨Md,#[],_,e1,Z,(λe he=>absurd he (by simp)),λ_=>Z⟩;have I1:=I.laid (a:=s.heap.objs.size) (o:=.own (s.heap.objs.size+1)) (h':=s.heap.push Md) (t':=s.toks) (λb u q=>Kd _ q) (Kb _) ⟨_,e1⟩;refine I1.laid (a:=s.heap.objs.size+1) (o:=.ins C s.heap.objs.size []) (t':=s.toks) (λb u q=>Kd _ q) (Qm (MP _ _)) ?_;have ne:s.heap.objs.size≠s.heap.objs.size+1:=KM (MC _);refine⟨by rw[ak ne,zqd],KJ _,ne,e2,λ_=>none,(Kp.Ns1.of_empty e3).at λo q=>Kd _ q,λ_=>MB,λy hy=>absurd Z hy⟩
theorem Ah(hb:MJ e f env (eval e env)=eval e env)
  (h:Kz (KF prog w) A (eval e env) (λo s₁=>Kz (KF prog w) A (getAttr o f true) Q E s₁) E s):Kz (KF prog w) A (eval (.Attribute e f pos) env) Q E s:=
 Attribute_any_ h (by rw[arm_eval_Attribute,hb])
end
def A5(K:J5)(ta:TE)(f:K1):TE:=λσ H Q=>ta σ H λx H1=>∃a C dx fs v,x=.ref a/\H1 a=some (.ins C dx fs)/\qV K C/\cS K C f/\fs.lookup f=some v/\Q v H1
def IK(K:J5)(ta:TE)(f:K1):TE:=λσ H Q=>ta σ H λx H1=>∃a C dx fs v u,x=.ref a/\H1 a=some (.ins C dx fs)/\qV K C/\JF K C f v u/\fs.lookup f=none/\Q v H1
def Ed(K:J5)(ta tv:TE)(f:K1):TS:=λD σ H=>tv σ H λy H1=>ta σ H1 λx H2=>∃a C dx fs,x=.ref a/\H2 a=some (.ins C dx fs)/\qV K C/\cS K C f/\fs.length<1000∧
 D.nx σ (av H2 a (.ins C dx (eW f y fs)))
def Jy(X:Cx)(op:QL)(rd:V->V->Hp->VK->Prop):Prop:=
 ∀(pins:List (Addr×LY)) (s:Ka) (σ:St) (H:Hp) (x y:V) (u v:Value) (Q:VK),Inv X pins σ H s->aY x u->aY y v->rd x y H Q->Kz (KF X.prog X.w) X.A (Tk op u v) (EP X pins σ Q) X.xe s
def FE(K:J5)(ta tv:TE)(rd:V->V->Hp->VK->Prop)(f:K1):TS:=λD σ H=>ta σ H λx H1=>∃a C dx fs v,x=.ref a/\H1 a=some (.ins C dx fs)/\qV K C/\cS K C f/\fs.lookup f=some v∧
 tv σ H1 λy H2=>rd v y H2 λz H3=>∃dx' fs',H3 a=some (.ins C dx' fs')/\fs'.length<1000/\D.nx σ (av H3 a (.ins C dx' (eW f z fs')))
section
variable {X:Cx}{o e value:Le}{f:K1}{pos pos' tpos:NW}{ta tv:TE}
theorem Cd(he:PE X e ta)(hb:MJ e f X.env (eval e X.env)=eval e X.env):PE X (.Attribute e f pos) (A5 X.K ta f):=by
 intro pins s σ H Q I h;refine Ah hb (bJ (he pins s σ H _ I h) λu s1 ⟨x,H1,I1,rx,a,C,dx,fs,v,ex,ea,c,n,l,q⟩=>?_);subst ex;obtain rfl:u=K7 a:=rx;exact qB I1 ea c n l λu' s2 I2 ru=>⟨v,H1,I2,ru,q⟩
theorem BW(ha:PE X o ta)(hv:PE X value tv)(hs:NQ value (some (.Attribute o f pos')) pos.line X.env=Mz false):PS X (.Assign [.Attribute o f pos'] value pos) (Ed X.K ta tv f):=by
 intro pins s σ H D I h;refine plainObj_wpAny_Assign_Attribute (bJ (hv pins s σ H _ I h) λu s1 ⟨y,H1,I1,ry,q⟩=>bJ (ha pins s1 σ H1 _ I1 q) λov s2 ⟨x,H2,I2,rx,a,C,dx,fs,ex,ea,c,n,l,q2⟩=>?_) hs;subst ex;obtain rfl:ov=K7 a:=rx;exact pX I2 ea c n l ry λs3 I3=>⟨σ,_,I3,q2⟩
def Jb:V->V->Hp->VK->Prop:=λx y H Q=>∃i j,x=.int i/\y=.int j/\Q (.int (i+j)) H
def IP:V->V->Hp->VK->Prop:=λx y H Q=>∃i j,x=.int i/\y=.int j/\Q (.int (i-j)) H
end
section
variable {X:Cx}{pins:List (Addr×LY)}{σ:St}{H:Hp}{s:Ka}{A:K3}{E:Value->Ka->Prop}{Q:Value->Ka->Prop}{c:Value}{b:Bool}
inductive iX(K:J5)(H:Hp):V->Value->Prop where
 |non:iX K H .non (.type "NoneType")
 |bl (x:Bool):iX K H (.bl x) (.type "bool")
 |int (i:Int):iX K H (.int i) (.type "int")
 |str (x:K1):iX K H (.str x) (.type "str")
 |flt (x:UInt64):iX K H (.flt x) (.type "float")
 |lst {a:Addr} {xs:List V} (e:H a=some (.lst xs)):iX K H (.ref a) (.type "list")
 |frz {a:Addr} {o:LY} {xs:List V} (e:H a=some (.frz o (.lst xs))):iX K H (.ref a) (.type "list")
 |tup {a:Addr} {xs:List V} (e:H a=some (.tup xs)):iX K H (.ref a) (.type "tuple")
 |dK {a:Addr} {kvs:List (cv×V)} (e:H a=some (.dK kvs)):iX K H (.ref a) (.type "dict")
 |dT {a:Addr} {kvs:List (List cv×V)} (e:H a=some (.dT kvs)):iX K H (.ref a) (.type "dict")
 |ins {a C dx:Addr} {fs:List (K1×V)} (e:H a=some (.ins C dx fs)) (cl:qV K C) (ha:Lp K (.ref C) "__class__"=some (some (.builtin "object.__class__")))
   (hn:Pz K (.builtin "object.__class__") "__get__"=some (some (.builtin "getset_descriptor.__get__"))) (htk:SF K (.builtin "object.__class__")=some true)
   (hm:PySem.W.mroIn K C (.type "object")=some true):iX K H (.ref a) (.ref C)
theorem tT(I:Inv X pins σ H s)(rx:aY x u)(ty:iX X.K H x t)(e:NZ X.K t c=some b)(h:∀tk,Q (.bool b) { s with toks:=tk}):
  Kz (KF X.prog X.w) A (call (.builtin "isinstance") [u,c]) Q E s:=by
 cases ty with
 |non=>cases(show u=NX from rx);exact LK PySem.W.kitx_none I.kIn MB e (λz=>nomatch z) h
 |bl y=>cases(show u=Om y from rx);exact LK PySem.W.kitx_bool I.kIn MB e (λz=>nomatch z) h
 |int i=>obtain⟨t,q⟩:=(show ∃t,u=Mf i t from rx);cases q;exact LK PySem.W.kitx_int I.kIn MB e (λz=>nomatch z) h
 |str y=>obtain⟨t,q⟩:=(show ∃t,u=P0 y t from rx);cases q;exact LK PySem.W.kitx_str I.kIn MB e (λz=>nomatch z) h
 |flt y=>obtain⟨t,q⟩:=(show ∃t,u=Ss y t from rx);cases q;exact LK PySem.W.kitx_float I.kIn MB e (λz=>nomatch z) h
 | @lst a xs ea=>
  cases(show u=K7 a from rx)
  obtain⟨_,_,n,_,h1⟩:=(show bo X.prog X.w H s.heap a (.lst xs) from I.hok a _ ea);exact LK PB I.kIn ⟨_,h1,Z⟩ e (λz=>nomatch z) h
 | @frz a ob xs ea=>
  cases(show u=K7 a from rx)
  obtain⟨_,_,_,n,_,h1⟩:=(show bo X.prog X.w H s.heap a (.frz ob (.lst xs)) from I.hok a _ ea);exact LK PB I.kIn ⟨_,h1,Z⟩ e (λz=>nomatch z) h
 | @tup a xs ea=>
  cases(show u=K7 a from rx)
  obtain⟨_,_,_,p⟩:=(show bo X.prog X.w H s.heap a (.tup xs) from I.hok a _ ea);obtain⟨o,h1,h2,_⟩:=p;exact LK Rp I.kIn ⟨o,h1,h2⟩ e (λz=>nomatch z) h
 | @dK a kvs ea=>
  cases(show u=K7 a from rx)
  obtain⟨_,_,vs,_,p⟩:=(show bo X.prog X.w H s.heap a (.dK kvs) from I.hok a _ ea);obtain⟨o,es,ep,h1,h2,_⟩:=p;exact LK RE I.kIn ⟨o,h1,h2.1⟩ e (λz=>nomatch z) h
 | @dT a kvs ea=>
  cases(show u=K7 a from rx)
  obtain⟨_,_,xs,_,o,es,ep,h1,h2,_⟩:=(show bo X.prog X.w H s.heap a (.dT kvs) from I.hok a _ ea);exact LK RE I.kIn ⟨o,h1,h2.1⟩ e (λz=>nomatch z) h
 | @ins a C dx fs ea cl ha hn htk hm=>
  cases(show u=K7 a from rx)
  obtain⟨mA,O,_⟩:=jC I.hok ea;obtain⟨od,J,_⟩:=O.look;exact LK (PySem.W.kitx_own (cl.get _) cl.hd ha hn htk hm) I.kIn J e (λz=>nomatch z) h
end
end L2
namespace L2
open PySem PySem.Spec PyProof.Rows
structure cR(k:Nat)(A:K3):Prop where
 hd:A.handled=none
 dp:A.depth+3*k+5<recursionLimit
 un:A.units+16*k+200<cLine
 gd:A.guards=some []
theorem cR.mono(r:cR k A)(h:j≤k):cR j A:=⟨r.hd,by have:=r.dp;omega,by have:=r.un;omega,r.gd⟩
theorem cR.deeper(r:cR (k+1) A)(env:SK):cR k (A.deeper env):=
 ⟨r.hd,by have:=r.dp;show A.depth+1+3*k+5<_;omega,by have:=r.un;show A.units+3+16*k+200<_;omega,r.gd⟩
theorem qw{A:K3}:(A.under (.builtin "type.__call__" ⟨.ref C:: us,kw⟩)).depth=A.depth+1:=by
 first|rfl|simp[Qn,Sk.weight,Sk.isCreation,Sk.isGuard,Sk.isCaller,Sk.frames,RF,guardIds]
theorem qu{A:K3}:(A.under (.builtin "type.__call__" ⟨.ref C:: us,kw⟩)).units=A.units+1:=by
 first|rfl|simp[Qn,Sk.cUnits,Sk.frames,RF]
theorem oN{A:K3}:(A.under (.builtin "type.__call__" ⟨.ref C:: us,kw⟩)).guards=A.guards:=by
 first|rfl|simp[Qn,Sk.guards,Sk.isGuard,guardIds,pushGuards]
theorem cR.make(r:cR (k+1) A)(C:Addr)(us:List Value)(kw:List (K1×Value)):cR k (A.under (.builtin "type.__call__" ⟨.ref C:: us,kw⟩)):=
 ⟨r.hd,by have:=r.dp;rw[qw];omega,by have:=r.un;rw[qu];omega,by rw[oN];exact r.gd⟩
theorem cR.depth(r:cR k A):A.depth<recursionLimit:=by have:=r.dp;omega
theorem cR.units(r:cR k A):A.units+64<cLine:=by have:=r.un;omega
def yE:TA:=λ_ H Q=>Q [] H
def AA(ta:TE)(tr:TA):TA:=λσ H Q=>ta σ H λx H1=>tr σ H1 λxs H2=>Q (x::xs) H2
section
variable {X:Cx}{e:Le}{es:List Le}{te:TE}{t:TA}{pos:NW}
theorem Ch:PA X [] yE:=λ_ _ _ _ H Q I h=>Calls.spliced_nil ⟨[],H,I,.nil,h⟩
theorem zF(ha:PE X e te)(hr:PA X es t)(hs:Kr (e::es) X.env=(false,eval e X.env)::Kr es X.env:=by rfl):PA X (e::es) (AA te t):=by
 intro pos pins s σ H Q I h;rw[hs];show Kz _ _ (spliced ((false,eval e X.env)::MW pos (Kr es X.env))) _ _ s;refine Calls.spliced_cons (bJ (ha pins s σ H _ I h) λu s1 ⟨x,H1,I1,r1,q1⟩=>?_);exact bJ (hr pos pins s1 σ H1 _ I1 q1) λus s2 ⟨xs,H2,I2,r2,q2⟩=>⟨x::xs,H2,I2,.cons r1 r2,q2⟩
def DT(t:TA):TE:=λσ H Q=>t σ H λxs H1=>xs.length≤sizeLine/\∀p,H1 p=none->Q (.ref p) (av H1 p (.tup xs))
def DX(t:TA):TE:=λσ H Q=>t σ H λxs H1=>xs.length≤sizeLine/\∀p,H1 p=none->Q (.ref p) (av H1 p (.lst xs))
theorem B6{x1}(h:PA X es t):PE X (.Tuple es x1 pos) (DT t):=by
 intro pins s σ H Q I hq;refine wpAny_Tuple_spliced (bJ (h pos pins s σ H _ I hq) λus s1 ⟨xs,H1,I1,r,z,q⟩=>⟨by rw[←r.length];exact z,?_⟩);have hf:H1 s1.heap.objs.size=none:=I1.hok.fresh (Kb _);refine⟨.ref s1.heap.objs.size,av H1 s1.heap.objs.size (.tup xs),I1.laid (t':=s1.toks) (λb u e=>Kd _ e) (Kb _) ?_,Z,q _ hf⟩;exact⟨z,us,r,⟨_,Kq _ Z,Z,_,Z⟩⟩
theorem Cb(h:PA X es t):PE X (.List es pos) (DX t):=by
 intro pins s σ H Q I hq;refine wpAny_List_spliced (bJ (h pos pins s σ H _ I hq) λus s1 ⟨xs,H1,I1,r,z,q⟩=>⟨by rw[←r.length];exact z,?_⟩);have hf:H1 s1.heap.objs.size=none:=I1.hok.fresh (Kb _);refine⟨.ref s1.heap.objs.size,av H1 s1.heap.objs.size (.lst xs),I1.laid (t':=s1.toks) (λb u e=>Kd _ e) (Kb _) ?_,Z,q _ hf⟩;exact⟨z,us,0,r,Kq _ Z⟩
end
abbrev Sp:=List V->Hp->VK->XK->Prop
abbrev pH:=List SK->Hp->Ka->XK->Value->Ka->Prop
structure pG(P:KZ)(w:Lk)(K:J5)(mg:K1->Option Value)(base:Kp)(A:K3)(outer:List SK)(s:Ka)(H:Hp):Prop where
 frames:A.frames=some outer
 mod:Mod K mg base
 bs:∀b o,base.get? b=some o->s.heap.get? b=some o/\H b=none
 bsz:base.objs.size≤s.heap.objs.size
 funs:s.heap.FunFrames base outer
 frf:∀b∈rV outer,H b=none
 hok:gS P w H s.heap
 bare:OQ s.gens
def CE(outer:List SK)(P:KZ)(w:Lk)(H:Hp)(s:Ka)(Q:VK)(u:Value)(s':Ka):Prop:=
 ∃v H',s'.os=s.os/\OQ s'.gens/\Un (rV outer) [] H H' s.heap s'.heap/\gS P w H' s'.heap/\aY v u/\Q v H'
def CR(CX:pH)(outer:List SK)(P:KZ)(w:Lk)(H:Hp)(s:Ka)(Q:VK)(E:XK)(r:SQ)(s':Ka):Prop:=
 match r with
 | .ok (.ret u)=>CE outer P w H s Q u s'
 | .ok _=>False
 | .error e=>CX outer H s E e s'
structure bu(P:KZ)(w:Lk)(K:J5)(mg:K1->Option Value)(base:Kp)(CX:pH)(k:Nat)(f:Addr)(fd:Kh)(ps:List K1)(sp:Sp):Prop where
 len:∀vs H Q E,sp vs H Q E->vs.length=ps.length
 run:∀(A:K3) (outer:List SK) (s:Ka) (H:Hp) (args:Args) (us:List Value) (vs:List V) (Q:VK) (E:XK),cR k A->pG P w K mg base A outer s H->Qo s fd args (ps.zip us)->aZ vs us->sp vs H Q E→
  OB (KF P w) A (.call (.ref f) args) (CR CX outer P w H s Q E) s
theorem pG.make{P:KZ}{w:Lk}{K:J5}{mg:K1->Option Value}{base:Kp}{A:K3}{outer:List SK}{s:Ka}{H:Hp}(e:pG P w K mg base A outer s H)(C:Addr)(us:List Value)(kw:List (K1×Value)) :
  pG P w K mg base (A.under (.builtin "type.__call__" ⟨.ref C::us,kw⟩)) outer s H:=⟨by first|exact e.frames | (simpa [Qn,Sk.envs,RF,pushEnvs] using e.frames),e.mod,e.bs,e.bsz,e.funs,e.frf,e.hok,e.bare⟩
section
variable {X:Cx}{pins:List (Addr×LY)}{σ:St}{H:Hp}{s s':Ka}
theorem Inv.env0(I:Inv X pins σ H s):pG X.prog X.w X.K X.mg X.base X.A X.stack s H:=
 ⟨I.ok.frames,I.ok.mod,I.bs,K5 I.ok.bsz I.sz,I.stack,I.stkFree,I.hok,I.bare⟩
theorem Inv.after(I:Inv X pins σ H s)(h:CE X.stack X.prog X.w H s Q u s'):EP X pins σ Q u s':=by
 obtain⟨v,H',os,bare,un,hok,r,q⟩:=h;obtain⟨hh,g,d,t,os'⟩:=s';obtain rfl:os'=s.os:=os;exact⟨v,H',I.call (h':=hh) (g':=g) (d':=d) (t':=t) (ch:=[]) un hok bare (λb z=>absurd z (by simp)),r,q⟩
end
def uA(sp:Sp)(dvs:List V)(E:XK)(t:TA):TE:=λσ H Q=>t σ H λvs H1=>sp (vs++dvs) H1 Q E
def rg(C:Addr)(m:K1)(sp:Sp)(dvs:List V)(E:XK)(ta:TE)(t:TA):TE:=λσ H Q=>ta σ H λx H1=>∃a dx fs,x=.ref a/\H1 a=some (.ins C dx fs)/\fs.lookup m=none∧
 t σ H1 λvs H2=>sp (x::(vs++dvs)) H2 Q E
def Ax(C:Addr)(sp:Sp)(dvs:List V)(E:XK)(t:TA):TE:=λσ H Q=>t σ H λvs H1=>∀x dx,H1 x=none->H1 dx=none->dx≠x→
 sp (.ref x::(vs++dvs)) (av (av H1 dx (.own x)) x (.ins C dx [])) (λv H2=>v=.non/\Q (.ref x) H2) E
def aS(K:J5)(fd:Kh)(ps:List K1)(ds:List Value):Prop:=
 ∀(s:Ka) (us:List Value),K.In s.heap->(us++ds).length=ps.length->Qo s fd ⟨us,[]⟩ (ps.zip (us++ds))
theorem aS.all{K:J5}{fd:Kh}{ps:List K1}(h:∀us:List Value,us.length=ps.length->RG fd ⟨us,[]⟩=Mz (ps.zip us)):aS K fd ps []:=λs us _ hl=>by
 rw[LF] at hl ⊢;exact .of_eq (h us hl)
def eQ(CX:pH)(X:Cx)(E:XK):Prop:=∀(pins:List (Addr×LY)) (σ:St) (H:Hp) (s:Ka) (e:Value) (s':Ka),Inv X pins σ H s->CX X.stack H s E e s'->X.xe e s'
section
variable {X:Cx}{CX:pH}{k:Nat}{f C:Addr}{fd:Kh}{ps:List K1}{sp:Sp}{dvs:List V}{ds:List Value}{E:XK}{x m:K1}{p pos apos:NW}{e o:Le}{es:List Le}{ta:TE}{t:TA}
theorem qg{pins:List (Addr×LY)}{σ:St}{H:Hp}{s:Ka}{Q:VK}{us:List Value}{vs:List V}(F:bu X.prog X.w X.K X.mg X.base CX k f fd ps sp)(hr:cR k X.A)(hb:aS X.K fd ps ds)(hd:aZ dvs ds)(hx:eQ CX X E)
  (I:Inv X pins σ H s) (r:aZ vs us) (h:sp (vs++dvs) H Q E):Kz (KF X.prog X.w) X.A (call (.ref f) us) (EP X pins σ Q) X.xe s:=by
 have r2:aZ (vs++dvs) (us++ds):=r.append hd;have hl:(us++ds).length=ps.length:=by rw[←r2.length];exact F.len _ _ _ _ h
 refine SR (OC (F.run X.A X.stack s H ⟨us,[]⟩ (us++ds) (vs++dvs) Q E hr I.env0 (hb s us I.kIn hl) r2 h) λr s' hq=>?_)
 cases r with
 |error e=>exact hx pins σ H s e s' I hq
 |ok fl=>
  cases fl with
  |ret u=>exact I.after hq
  |next=>exact MY hq
  |brk=>exact MY hq
  |cont=>exact MY hq
theorem zw(F:bu X.prog X.w X.K X.mg X.base CX k f fd ps sp)(hr:cR k X.A)(hg:Gl X x)(hm:X.mg x=some (.ref f))(hk:Mr X.K (.ref f)=true)(hb:aS X.K fd ps ds)(hd:aZ dvs ds)(hx:eQ CX X E)
  (ha:PA X (e::es) t) (hdb:(x==("__debug__" : K1))=false:=by decide) (he:Kr (e::es) X.env=(false,eval e X.env)::Kr es X.env:=by rfl) (hpl:(MW pos (Kr es X.env)).any (·.1)=false:=by rfl) :
  PE X (.Call (.Name x p) (e::es) [] pos) (uA sp dvs E t):=by
 intro pins s σ H Q I h;refine On (nj I hg hm ?_ hdb);refine Ph (h₀:=X.base) I.ok.mod.kin hk (bJ (ha pos pins s σ H _ I h) λus s1 ⟨vs,H1,I1,r,q⟩=>⟨I1.kIn,?_⟩) he hpl;exact qg F hr hb hd hx I1 r q
theorem zp{pl:Sem Bool}(he:PE X o ta)(c:qV X.K C)(hm:iK X.K C m f)(F:bu X.prog X.w X.K X.mg X.base CX k f fd ps sp)(hr:cR k X.A)(hb:aS X.K fd ps ds)(hd:aZ dvs ds)(hx:eQ CX X E)(ha:PA X (e::es) t)
  (hst:Kr (e::es) X.env=(false,eval e X.env)::Kr es X.env:=by rfl) (hpl:(MW pos (Kr es X.env)).any (·.1)=false:=by rfl)
  (ht:eval (.Call (.Attribute o m apos) (e::es) [] pos) X.env=(do
   let ov ←eval o X.env
   Ql apos.atName
   let (f,first) ←holding [ov] (P3 ov m pl)
   RH pos f first (MW pos (Kr (e::es) X.env)) (OU pos (NA [] X.env))):=by rfl) :
  PE X (.Call (.Attribute o m apos) (e::es) [] pos) (rg C m sp dvs E ta t):=by
 intro pins s σ H Q I h;refine QB (pl:=pl) (bJ (he pins s σ H _ I h) λu s1 ⟨x,H1,I1,rx,a,dx,fs,ex,ea,l,q⟩=>?_) ht;subst ex;obtain rfl:u=K7 a:=rx;refine kl I1 ea c hm l ?_;refine Ph (first:=[.ref a]) (h₀:=X.base) I.ok.mod.kin hm.kp (bJ (ha pos pins s1 σ H1 _ I1 q) λus s2 ⟨vs,H2,I2,r,q2⟩=>⟨I2.kIn,?_⟩) hst hpl;exact qg (us:=.ref a::us) (vs:=.ref a::vs) F hr hb hd hx I2 (.cons Z r) q2
theorem wy{pl:Sem Bool}(he:PE X o ta)(c:qV X.K C)(hm:iK X.K C m f)(F:bu X.prog X.w X.K X.mg X.base CX k f fd ps sp)(hr:cR k X.A)(hb:aS X.K fd ps ds)(hd:aZ dvs ds)(hx:eQ CX X E)
  (ht:eval (.Call (.Attribute o m apos) [] [] pos) X.env=(do
   let ov ←eval o X.env
   Ql apos.atName
   let (f,first) ←holding [ov] (P3 ov m pl)
   RH pos f first (MW pos (Kr [] X.env)) (OU pos (NA [] X.env))):=by rfl) :
  PE X (.Call (.Attribute o m apos) [] [] pos) (rg C m sp dvs E ta yE):=by
 intro pins s σ H Q I h;refine QB (pl:=pl) (bJ (he pins s σ H _ I h) λu s1 ⟨x,H1,I1,rx,a,dx,fs,ex,ea,l,q⟩=>?_) ht;subst ex;obtain rfl:u=K7 a:=rx;refine kl I1 ea c hm l ?_;exact PySem.W.callWith_K0 (first:=[.ref a]) I1.kIn hm.kp (qg (us:=[.ref a]) (vs:=[.ref a]) F hr hb hd hx I1 (.cons Z .nil) q)
structure Mk(K:J5)(C f:Addr):Prop where
 makes:SE K C=true
 init:Lp K (.ref C) "__init__"=some (some (.ref f))
 fn:O5 K (.ref f)=true
 kp:Mr K (.ref C)=true
theorem vE{pins:List (Addr×LY)}{σ:St}{H:Hp}{s:Ka}{Q:VK}{us:List Value}{vs:List V}(M:Mk X.K C f)(F:bu X.prog X.w X.K X.mg X.base CX k f fd ps sp)(hr:cR (k+1) X.A)(hb:aS X.K fd ps ds)(hd:aZ dvs ds)
  (hx:eQ CX X E) (I:Inv X pins σ H s) (r:aZ vs us)
  (h:∀x dx,H x=none->H dx=none->dx≠x->sp (.ref x::(vs++dvs)) (av (av H dx (.own x)) x (.ins C dx [])) (λv H2=>v=.non/\Q (.ref x) H2) E) :
  Kz (KF X.prog X.w) X.A (call (.ref C) us) (EP X pins σ Q) X.xe s:=by
 have hq:=h (s.heap.objs.size+1) s.heap.objs.size (I.hok.fresh (Nm _)) (I.hok.fresh (Kb _)) (KM (MC _));have I2:=Inv.made (C:=C) I;have r2:aZ (V.ref (s.heap.objs.size+1)::(vs++dvs)) (K7 (s.heap.objs.size+1)::(us++ds)):=.cons Z (r.append hd);have hl:(K7 (s.heap.objs.size+1)::us++ds).length=ps.length:=by
  have e:=r2.length;rw[F.len _ _ _ _ hq] at e;exact e.symm
 refine SR (wW (f:=f) I.kIn M.makes M.init (beq_iff_eq.mp M.fn) (OC (F.run _ X.stack _ _ ⟨K7 (s.heap.objs.size+1)::us,[]⟩ (K7 (s.heap.objs.size+1)::(us++ds)) _ _ E (hr.make C us []) (I2.env0.make C us []) (hb _ (K7 (s.heap.objs.size+1)::us) I2.kIn hl) r2 hq) λr s' hq'=>?_))
 cases r with
 |error e=>exact hx pins σ _ _ e s' I2 hq'
 |ok fl=>
  cases fl with
  |ret u=>
   obtain⟨v,H',I3,rv,ev,q3⟩:=I2.after hq';subst ev;exact⟨rv,⟨V.ref (s.heap.objs.size+1),H',I3,Z,q3⟩⟩
  |next=>exact MY hq'
  |brk=>exact MY hq'
  |cont=>exact MY hq'
theorem zq(M:Mk X.K C f)(F:bu X.prog X.w X.K X.mg X.base CX k f fd ps sp)(hr:cR (k+1) X.A)(hg:Gl X x)(hm:X.mg x=some (.ref C))(hb:aS X.K fd ps ds)(hd:aZ dvs ds)(hx:eQ CX X E)
  (ha:PA X (e::es) t) (hdb:(x==("__debug__" : K1))=false:=by decide) (he:Kr (e::es) X.env=(false,eval e X.env)::Kr es X.env:=by rfl) (hpl:(MW pos (Kr es X.env)).any (·.1)=false:=by rfl) :
  PE X (.Call (.Name x p) (e::es) [] pos) (Ax C sp dvs E t):=by
 intro pins s σ H Q I h;refine On (nj I hg hm ?_ hdb);refine Ph (h₀:=X.base) I.ok.mod.kin M.kp (bJ (ha pos pins s σ H _ I h) λus s1 ⟨vs,H1,I1,r,q⟩=>⟨I1.kIn,?_⟩) he hpl;exact vE M F hr hb hd hx I1 r q
end
def PK(X:Cx)(kws:List O6)(t:TA):Prop:=
 ∀(pos:NW) (pins:List (Addr×LY)) (s:Ka) (σ:St) (H:Hp) (Q:List V->Hp->Prop),Inv X pins σ H s->t σ H Q->Kz (KF X.prog X.w) X.A (evalAll ((OU pos (NA kws X.env)).map (·.2))) (AP X pins σ Q) X.xe s
section
variable {X:Cx}{CX:pH}{k:Nat}{f C:Addr}{fd:Kh}{ps ks:List K1}{sp:Sp}{E:XK}{x m:K1}{p pos apos kpos:NW}{e o:Le}{es:List Le}{kws:List O6}{te ta:TE}{t tk:TA}{nm:Option K1}
structure GK(K:J5)(fd:Kh)(ps ks:List K1)(g:List Value->List Value->List Value)(gV:List V->List V->List V):Prop where
 to:∀(s:Ka) (us ws:List Value),K.In s.heap->(g us ws).length=ps.length->Qo s fd ⟨us,ks.zip ws⟩ (ps.zip (g us ws))
 rel:∀{vs:List V} {us:List Value} {zs:List V} {ws:List Value},aZ vs us->aZ zs ws->aZ (gV vs zs) (g us ws)
def F8(sp:Sp)(gV:List V->List V->List V)(E:XK)(t tk:TA):TE:=λσ H Q=>t σ H λvs H1=>tk σ H1 λzs H2=>sp (gV vs zs) H2 Q E
variable {g:List Value->List Value->List Value}{gV:List V->List V->List V}
end
structure aL(N P:List K1)(sc:Oa):Prop where
 kind:sc.kind=.function
 co:sc.isCoroutine=false
 gen:sc.isGenerator=false
 nd:N.Nodup
 pre:N.take P.length=P
 par:∀x∈P,sc.names.lookup x=some .local∨sc.names.lookup x=some .cell
 nofree:∀y∈sc.names,y.2≠.free
theorem lR{kindOf:K1->Option P4}{x:K1}:∀{binds:List (K1×Value)} {m:K1->Option Value},(∀v,(x,v)∉binds)->SS kindOf binds m x=m x
 | [],_,_=>rfl
 | (n,v)::r,m,h=>by
  unfold SS;rw[lR λw hw=>h w (Km _ hw)]
  split
  ·have:x≠n:=by rintro rfl;exact h v Kf
   simp[this]
  ·rfl
theorem lU{kindOf:K1->Option P4}{x:K1}:∀{binds:List (K1×Value)} {m:K1->Option Value},(∀v,(x,v)∉binds)->SU kindOf binds m x=m x
 | [],_,_=>rfl
 | (n,v)::r,m,h=>by
  unfold SU;rw[lU λw hw=>h w (Km _ hw)]
  split
  ·rfl
  ·have:x≠n:=by rintro rfl;exact h v Kf
   simp[this]
theorem lT{kindOf:K1->Option P4}{x:K1}{v:Value}:∀{P:List K1} {vs:List Value} {i:Nat} {m:K1->Option Value},P.Nodup->P[i]?=some x->vs[i]?=some v->kindOf x=some .local→
  SS kindOf (P.zip vs) m x=some v
 | [],_,_,_,_,h,_,_=>by simp at h
 |_::_,[],_,_,_,_,h,_=>by simp at h
 |p::P,w::vs,0,m,nd,h1,h2,hk=>by
  simp at h1 h2;subst h1;subst h2;show SS kindOf ((p,w)::P.zip vs) m p=_;unfold SS;rw[lR λv hv=>(Lo.mp nd).1 (Qx hv).1,if_pos hk];simp
 |p::P,w::vs,i+1,m,nd,h1,h2,hk=>by
  show SS kindOf ((p,w)::P.zip vs) m x=_;unfold SS;exact lT (i:=i) (Lo.mp nd).2 (by simpa using h1) (by simpa using h2) hk
theorem lV{kindOf:K1->Option P4}{x:K1}{v:Value}:∀{P:List K1} {vs:List Value} {i:Nat} {m:K1->Option Value},P.Nodup->P[i]?=some x->vs[i]?=some v->kindOf x≠some .local→
  SU kindOf (P.zip vs) m x=some v
 | [],_,_,_,_,h,_,_=>by simp at h
 |_::_,[],_,_,_,_,h,_=>by simp at h
 |p::P,w::vs,0,m,nd,h1,h2,hk=>by
  simp at h1 h2;subst h1;subst h2;show SU kindOf ((p,w)::P.zip vs) m p=_;unfold SU;rw[lU λv hv=>(Lo.mp nd).1 (Qx hv).1,if_neg hk];simp
 |p::P,w::vs,i+1,m,nd,h1,h2,hk=>by
  show SU kindOf ((p,w)::P.zip vs) m x=_;unfold SU;exact lV (i:=i) (Lo.mp nd).2 (by simpa using h1) (by simpa using h2) hk
def i4(N:List K1)(vs:List V):St:=vs.map some++Ki (N.length-vs.length) none
def bI(CX:pH)(P:KZ)(w:Lk)(K:J5)(mg:K1->Option Value)(base:Kp)(N:List K1)(qual:K1)(scope:Oa)(f:Addr)(cd:Value)(A:K3)(outer:List SK)(s:Ka)(H:Hp)(E:XK):Cx where
 prog:=P
 w:=w
 K:=K
 mg:=mg
 base:=base
 A:=A.deeper (QN qual scope s.heap.objs.size f cd)
 N:=N
 s₀:=s
 H₀:=H
 env:=QN qual scope s.heap.objs.size f cd
 outer:=outer
 stack:=QN qual scope s.heap.objs.size f cd::outer
 ex:=[]
 calm:=true
 fn:=λ_=>true
 pn:=[]
 xe:=λe s'=>Kz (KF P w) (A.deeper (QN qual scope s.heap.objs.size f cd)) (leaving (QN qual scope s.heap.objs.size f cd) e) (λ_ s''=>CX outer H s E e s'') (λe' s''=>CX outer H s E e' s'') s'
theorem o9{sc:Oa}(h:sc.names.lookup x=some .cell):∃c,(Tq n sc.names []).lookup x=some c:=by
 have q:=Qp sc.names n [] (.inl h);exact PR.mp q
theorem tU{CX:pH}{P:KZ}{w:Lk}{K:J5}{mg:K1->Option Value}{base:Kp}{N ps:List K1}{qual:K1}{scope:Oa}{f:Addr}{cd:Value}{A:K3}{outer:List SK}{s s1:Ka}{H:Hp}{E:XK}{us:List Value}{vs:List V}
  (S:aL N ps scope) (hd:A.handled=none) (e0:pG P w K mg base A outer s H) (hl:vs.length=ps.length) (r:aZ vs us)
  (x:InCallC s s.heap.objs.size (SS (QN qual scope s.heap.objs.size f cd).kindOf (ps.zip us) λ_=>none) (Tq (s.heap.objs.size+1) scope.names []) (SU (QN qual scope s.heap.objs.size f cd).kindOf (ps.zip us) λ_=>none) s1) :
  Inv (bI CX P w K mg base N qual scope f cd A outer s H E) [] (i4 N vs) H s1:=by
 have hpl:ps.length≤N.length:=by have:=congrArg List.length S.pre;rw[K0] at this;omega
 obtain⟨h1,tk,rfl,hk⟩:=x.done;have noA:∀b:Addr,b∉(bI CX P w K mg base N qual scope f cd A outer s H E).ex:=λb z=>absurd (show b∈([]:List Addr) from z) (by simp)
 refine⟨⟨e0.mod,S.kind,Z,Z,Kb _,λy z c h1 h2=>?_,λy hy=>?_,λy c _ h=>?_,λ_=>hd,K3.frames_deeper e0.frames,.inr ⟨Z,Z⟩,λb z=>absurd z (noA b),e0.bs,e0.bsz,λb _ _=>noA b,λb z=>absurd z (noA b),e0.funs,e0.frf⟩,
  rfl,e0.bare,Un.kept hk,⟨_,x.toInCall.ns,λi y v h1 h2 h3=>?_⟩,λy c h=>⟨_,x.cell y c h⟩,e0.hok.fresh (Kb _),λy c h=>?_,λp hp=>absurd (show p∈([]:List (Addr×LY)) from hp) (by simp),e0.hok.kept hk,?_⟩
 ·exact name_of_addr x.apart (Nw h1) (Nw h2)
 ·have hy:scope.names.lookup y=some .cell∨scope.names.lookup y=some .free:=hy;rcases hy with hy|hy
  ·exact o9 hy
  ·exact absurd Z (S.nofree _ (Nw hy))
 ·exact MI (x.above y c (Nw h))
 ·have hi:i<vs.length:=by
   unfold i4 at h2;by_cases hi:i<vs.length
   ·exact hi
   ·rw[N3 (by simpa using hi)] at h2;rw[Mj] at h2
    split at h2<;>cases h2
  have ha:vs[i]?=some v:=by
   unfold i4 at h2;rw[LC (by simpa using hi),Kt] at h2
   cases e:vs[i]? with
   |none=>rw[e] at h2;cases h2
   |some a=>rw[e] at h2;cases h2;rfl
  obtain⟨u,hu,rv⟩:=r.get ha;have hp:ps[i]?=some y:=by
   rw[←S.pre,List.getElem?_take_of_lt (by omega)];exact h1
  have ndP:ps.Nodup:=by rw[←S.pre];exact S.nd.sublist (RI _ _)
  refine⟨u,rv,?_⟩;rcases S.par y (Ke hp) with k|k
  ·exact .inl ⟨k,lT ndP hp hu k⟩
  ·obtain⟨c,e⟩:=o9 (n:=s.heap.objs.size+1) k;refine .inr ⟨.inl k,c,e,?_⟩;have q:=x.cell y c e;rw[lV ndP hp hu (by show scope.names.lookup y≠_;rw[k];decide)] at q;exact q
 ·exact e0.hok.fresh (MI (x.above y c (Nw h)))
 ·unfold i4;show _=N.length;rw[Ko,J7,LW];omega
theorem E1{CX:pH}{P:KZ}{w:Lk}{K:J5}{mg:K1->Option Value}{base:Kp}{k:Nat}{f:Addr}{name qual:K1}{params:Arguments}{body:List Stmt}{scope:Oa}{dV kV doc pm cdv ct oc:Value}{an od:Option Addr}
  {osl:Array (Option Value)} {N ps:List K1} {sp:Sp} (lk:K.lookup f=some ⟨oc,od,.func (Mg name qual params body scope dV kV doc pm an cdv ct),osl⟩) (hcd:OD K cdv qual=true) (S:aL N ps scope)
  (len:∀vs H Q E,sp vs H Q E->vs.length=ps.length)
  (hbody:∀(A:K3) (outer:List SK) (s:Ka) (H:Hp) (vs:List V) (Q:VK) (E:XK),cR k (A.deeper (QN qual scope s.heap.objs.size f cdv))->sp vs H Q E→
   ∃t,qT (bI CX P w K mg base N qual scope f cdv A outer s H E) body t/\t { nx:=λ_ H'=>Q .non H',rt:=Q} (i4 N vs) H) :
  bu P w K mg base CX (k+1) f (Mg name qual params body scope dV kV doc pm an cdv ct) ps sp:=by
 refine⟨len,λA outer s H args us vs Q E hr e0 hb r hsp=>?_⟩;have hl:=len _ _ _ _ hsp;have KX:K.In s.heap:=e0.mod.kin.keeps λb o e=>(e0.bs b o e).1
 have lim:s.heap.NoLimit:=e0.mod.nolimit.keeps λb o e=>(e0.bs b o e).1
 have hkind:∀y∈ps.zip us,scope.names.lookup y.1=some .local∨(scope.names.lookup y.1=some .cell/\((Tq (s.heap.objs.size+1) scope.names []).lookup y.1).isSome=true):=λ⟨n,v⟩ hy=>by
  rcases S.par n (Qx hy).1 with q|q
  ·exact .inl q
  ·exact .inr ⟨q,Qp _ _ _ (.inl q)⟩
 refine codeAny_call_function hr.depth (KX _ _ lk) Z S.co S.gen Z (PySem.W.codeRec_of KX hcd) (hb _ _ _ _ ?_);refine wpAny_newFunctionEnv_cells S.kind hkind λenv he s1 x=>?_
 subst he;refine⟨lim.keeps x.toInCall.keep,codeAny_func ?_⟩;obtain⟨t,ht,hq⟩:=hbody A outer s H vs Q E (hr.deeper _) hsp;have I:Inv (bI CX P w K mg base N qual scope f cdv A outer s H E) [] (i4 N vs) H s1:=tU S hr.hd e0 hl r x;refine MX (ht [] s1 (i4 N vs) H _ I hq) (λfl s' hs=>?_) λe s' hs=>hs
 have fin:∀{σ':St} {H':Hp} {v:V} {u:Value},Inv (bI CX P w K mg base N qual scope f cdv A outer s H E) [] σ' H' s'->aY v u->Q v H'->CE outer P w H s Q u s':=
  λ{σ' H' v u} J rv q=>⟨v,H',J.os,J.bare,J.base,J.hok,rv,q⟩
 cases fl with
 |ret u=>
  obtain⟨v,σ',H',J,rv,q⟩:=hs;exact fin J rv q
 |next=>
  obtain⟨σ',H',J,q⟩:=hs;exact fin (v:=V.non) (u:=NX) J Z q
 |brk=>
  obtain⟨_,_,_,q⟩:=hs;exact MY q
 |cont=>
  obtain⟨_,_,_,q⟩:=hs;exact MY q
end L2
namespace L2
open PySem PySem.Spec PyProof.Rows
section
variable {X:Cx}{x:K1}{p pos:NW}{e:Le}{es:List Le}{t:TA}{id T:String}{r:List V->Hp->VK->Prop}
def Fv(r:List V->Hp->VK->Prop)(t:TA):TE:=λσ H Q=>t σ H λvs H1=>r vs H1 Q
theorem wE(hc:cM X (.builtin id) r)(hg:Gl X x)(hm:X.mg x=none)(hv:MH x=some (.builtin id))(ha:PA X (e::es) t)(hn:x ≠ "__name__" := by decide)(hdb:(x==("__debug__" : K1))=false:=by decide)
  (he:Kr (e::es) X.env=(false,eval e X.env)::Kr es X.env:=by rfl) (hpl:(MW pos (Kr es X.env)).any (·.1)=false:=by rfl):PE X (.Call (.Name x p) (e::es) [] pos) (Fv r t):=by
 intro pins s σ H Q I h;refine On (hX I hg hm hv ?_ hn hdb);exact PyProof.Rows.callWith_builtin1 (bJ (ha pos pins s σ H _ I h) λus s1 ⟨vs,H1,I1,r1,q1⟩=>hc pins s1 σ H1 vs us Q I1 r1 q1) he hpl
theorem tI(hc:cM X (.type T) r)(hg:Gl X x)(hm:X.mg x=none)(hv:MH x=some (.type T))(ha:PA X (e::es) t)(hn:x ≠ "__name__" := by decide)(hdb:(x==("__debug__" : K1))=false:=by decide)
  (he:Kr (e::es) X.env=(false,eval e X.env)::Kr es X.env:=by rfl) (hpl:(MW pos (Kr es X.env)).any (·.1)=false:=by rfl):PE X (.Call (.Name x p) (e::es) [] pos) (Fv r t):=by
 intro pins s σ H Q I h;refine On (hX I hg hm hv ?_ hn hdb);exact Mn (bJ (ha pos pins s σ H _ I h) λus s1 ⟨vs,H1,I1,r1,q1⟩=>hc pins s1 σ H1 vs us Q I1 r1 q1) he hpl
end
end L2
namespace HT
open PySem PyProof.Rows
def lexLt:List Int->List Int->Bool
 | [],[]=>false
 | [],_::_=>true
 |_::_,[]=>false
 |x::xs,y::ys=>if x=y then lexLt xs ys else decide (x<y)
section
open PySem.SeqAt
open PySem.MeetsSeq PySem.MeetsSeq2 PySem.MeetsSeq3
end
section
variable {prog:KZ}{w:Lk}{A:K3}{E:Value->Ka->Prop}{s:Ka}
def sIx(n d:Nat):Option Int->Nat
 |none=>d
 |some v=>if v<0 then(v+(n:Int)).toNat else min v.toNat n
theorem sIx_none(n d:Nat):sIx n d none=d:=Z
theorem sIx_nat(n d k:Nat):sIx n d (some (k:Int))=min k n:=by
 show(if(k:Int)<0 then((k:Int)+(n:Int)).toNat else min (k:Int).toNat n)=min k n;rw[if_neg (by omega),MS]
theorem BB(n d:Nat)(hd:d≤n)(o:Option Int):sIx n d o≤n:=by
 cases o with
 |none=>exact hd
 |some v=>
  show(if v<0 then(v+(n:Int)).toNat else min v.toNat n)≤n;by_cases hv:v<0
  ·rw[if_pos hv];omega
  ·rw[if_neg hv];exact Nat.min_le_right _ _
theorem sd(v:Int)(n d:Nat):(if v<0 then max (v+(n:Int)) 0 else min v (n:Int))=((sIx n d (some v):Nat):Int):=by
 show(if v<0 then max (v+(n:Int)) 0 else min v (n:Int))=(((if v<0 then(v+(n:Int)).toNat else min v.toNat n):Nat):Int);by_cases hv:v<0
 ·simp only[if_pos hv];omega
 ·simp only[if_neg hv];omega
theorem qM(lo hi:Option Int)(n:Nat):Ob lo hi 1 (n:Int)=(((sIx n 0 lo:Nat):Int),((sIx n n hi:Nat):Int)):=by
 have h1:¬((1:Int)<0):=by omega
 unfold Ob;simp only[h1,if_false];refine TB ?_ ?_
 ·cases lo with
  |none=>rfl
  |some v=>exact sd v n 0
 ·cases hi with
  |none=>rfl
  |some v=>exact sd v n n
theorem qk(i j:Nat):Nh (i:Int) (j:Int) 1=j-i:=by
 unfold Nh;have h1:(1:Int)>0:=by omega
 simp only[h1,if_true,RJ]
 split<;>omega
theorem jU(p:Rq v o)(h:Q o s):Kz (KF prog w) A (Ll.Slice.slicePartIndex v) Q E s:=by
 cases p with
 |none=>exact slicePart_none h
 |int i t=>exact slicePart_int h
theorem iS{sl:Addr}{vl vu:Value}{lo hi:Option Int}{n:Nat}{Q:Int×Int×Nat->Ka->Prop}(hs:s.heap.IsSliceOf sl vl vu .none)(pl:Rq vl lo)(pu:Rq vu hi)
  (h:Q (((sIx n 0 lo:Nat):Int),1,sIx n n hi-sIx n 0 lo) s):Kz (KF prog w) A (Pi (.ref sl) (Mz (n:Int))) Q E s:=by
 obtain⟨os,hos,hcs,hds⟩:=id hs;unfold Pi Ll.Slice.sliceFields;refine J8 (J8 (QP hos hds (x:=vl) Z (J8 (QP hos hds (x:=vu) Z (J8 (QP hos hds (x:=.none) Z (wpAny_pure ?_)))))));refine J8 (slicePart_none ?_);show Kz _ _ (if((1:Int)==0)=true then _ else _) _ _ s;rw[if_neg (by decide)];refine J8 (jU pl (J8 (jU pu (J8 (wpAny_pure ?_)))));show Kz _ _ (match Ob lo hi 1 (n:Int) with | (lo,hi)=>Mz (lo,(1:Int),Nh lo hi 1)) _ _ s;rw[qM lo hi n];show Kz _ _ (Mz (((sIx n 0 lo:Nat):Int),(1:Int),Nh ((sIx n 0 lo:Nat):Int) ((sIx n n hi:Nat):Int) 1)) _ _ s;rw[qk];exact wpAny_pure h
theorem v9(xs:Array Value)(i k:Nat):((J9 k).filterMap λ(m:Nat)=>xs[((i:Int)+(m:Int)*1).toNat]?).toArray=((xs.toList.drop i).take k).toArray:=by
 have e:(λ(m:Nat)=>xs[((i:Int)+(m:Int)*1).toNat]?)=λm=>xs[i+m]?:=by
  funext m
  have:((i:Int)+(m:Int)*1).toNat=i+m:=by omega
  rw[this]
 rw[e];have:=pick_run xs i k;rw[List.filterMap_map] at this;have e2:((λx=>xs[x]?)∘λx=>i+x)=λm=>xs[i+m]?:=Z
 rw[e2] at this;rw[this]
theorem getItem_tuple_cut{t sl:Addr}{items:Array Value}{vl vu:Value}{lo hi:Option Int}{Q:Value->Ka->Prop}(ht:Tz s.heap t items)(hs:s.heap.IsSliceOf sl vl vu .none)(pl:Rq vl lo)(pu:Rq vu hi)
  (hw:¬(sIx items.size 0 lo=0/\sIx items.size items.size hi=items.size))
  (h:Q (.ref s.heap.objs.size) { s with heap:=s.heap.push { cls:=.type "tuple",data:=.seq ((items.toList.drop (sIx items.size 0 lo)).take (sIx items.size items.size hi-sIx items.size 0 lo)).toArray} })
  (hsz:items.size≤sizeLine):Kz (KF prog w) A (O4 (.ref t) (.ref sl)) Q E s:=by
 have htake:sizeOk (.seq ((items.toList.drop (sIx items.size 0 lo)).take (sIx items.size items.size hi-sIx items.size 0 lo)).toArray):=by
  show((items.toList.drop (sIx items.size 0 lo)).take (sIx items.size items.size hi-sIx items.size 0 lo)).toArray.size≤sizeLine;rw[KI,K0,OK,Lg];omega
 have hj:sIx items.size items.size hi≤items.size:=BB _ _ (Kb _) hi;obtain⟨os,hos,hcs,hds⟩:=id hs;have hTs:s.TypeIs (.ref sl) "slice" := ⟨os,hos,hcs⟩;unfold O4
 try with_reducible refine wpAny_holding ?_
 first|refine J8 (wpAny_pure ?_)|skip
 refine J8 (wpAny_sequenceKey ht.typeIs (by decide) ?_);refine J8 (Ml (name:=ND "__getitem__") ht.typeIs Nv (LV Nv ht.typeIs entry_tuple_getitem ?_ (args_tuple_getitem _ _)))
 show Kz _ _ (Ll.Tuple.tupleItemsOf (.ref t) >>= _) _ _ s;refine J8 (tupleItemsOf_ ht ?_);refine J8 (RK hTs ?_);rw[if_pos (by decide)];refine J8 (iS hs pl pu ?_);have hno:¬((((sIx items.size 0 lo:Nat):Int)==0&&(1:Int)==1&&(sIx items.size items.size hi-sIx items.size 0 lo)==items.size)=true):=by
  intro q;rw[LG,LG] at q;have q1:((sIx items.size 0 lo:Nat):Int)=0:=Sm q.1.1;have q2:sIx items.size items.size hi-sIx items.size 0 lo=items.size:=Sm q.2;exact hw ⟨by omega,by omega⟩
 show Kz _ _ (if(((sIx items.size 0 lo:Nat):Int)==0&&(1:Int)==1&&(sIx items.size items.size hi-sIx items.size 0 lo)==items.size)=true then _ else _) _ _ s;rw[if_neg hno,v9]
 first
  |exact J8 (m:=Nt _) (LA (wpAny_pure ⟨_,rfl,wpAny_pure h⟩) htake)
  |exact J8 (m:=Nt _) (LA (J8 (wpAny_pure (wpAny_pure ⟨_,rfl,wpAny_pure h⟩))) htake)
  |exact J8 (J8 (m:=Nt _) (LA (wpAny_pure (wpAny_pure ⟨_,rfl,wpAny_pure h⟩)) htake))
  |exact J8 (J8 (m:=Nt _) (LA (wpAny_pure ⟨_,rfl,wpAny_pure h⟩) htake))
end
end HT
namespace L2
open PySem PySem.Spec PyProof.Rows
abbrev TO:=St->Hp->(Option Int->Hp->Prop)->Prop
def PO(X:Cx)(e:Option Le)(t:TO):Prop:=
 ∀(pins:List (Addr×LY)) (s:Ka) (σ:St) (H:Hp) (Q:Option Int->Hp->Prop),Inv X pins σ H s->t σ H Q→
  Kz (KF X.prog X.w) X.A (evalPart e X.env) (λu s'=>∃o H',Inv X pins σ H' s'/\Rq u o/\Q o H') X.xe s
def re:TO:=λ_ H Q=>Q none H
def Au(t:TE):TO:=λσ H Q=>t σ H λx H1=>∃i,x=.int i/\Q (some i) H1
section
variable {X:Cx}{e:Le}{te:TE}{lo hi:Option Le}{tl th:TO}{pos p2:NW}
theorem ze:PO X none re:=by
 intro pins s σ H Q I h;rw[evalPart_none];exact wpAny_pure ⟨none,H,I,.none,h⟩
theorem zd(h:PE X e te):PO X (some e) (Au te):=by
 intro pins s σ H Q I hw;rw[evalPart_some];refine bJ (h pins s σ H _ I hw) λu s1 ⟨x,H1,I1,r1,q1⟩=>?_
 obtain⟨i,rfl,q⟩:=q1;obtain⟨t,rfl⟩:=r1;exact⟨some i,H1,I1,.int i t,q⟩
def FO(X:Cx)(r:V->Option Int->Option Int->Hp->VK->Prop):Prop:=
 ∀(pins:List (Addr×LY)) (s:Ka) (σ:St) (H:Hp) (x:V) (v vl vu:Value) (lo hi:Option Int) (sl:Addr) (Q:VK),Inv X pins σ H s->aY x v->s.heap.IsSliceOf sl vl vu .none->Rq vl lo->Rq vu hi->r x lo hi H Q→
  ∃T id,typeLookup (.type T) "__getitem__"=Mz (some (.builtin id))/\s.TypeIs v T/\Kz (KF X.prog X.w) X.A (O4 v (.ref sl)) (EP X pins σ Q) X.xe s
def GX(r:V->Option Int->Option Int->Hp->VK->Prop)(te:TE)(tl th:TO):TE:=λσ H Q=>te σ H λx H1=>tl σ H1 λl H2=>th σ H2 λu H3=>r x l u H3 Q
theorem wx(hr:FO X r)(he:PE X e te)(hl:PO X lo tl)(hu:PO X hi th):PE X (.Subscript e (.Slice lo hi none p2) pos) (GX r te tl th):=by
 intro pins s σ H Q I h;refine SV (bJ (he pins s σ H _ I h) λv s1 ⟨x,H1,I1,r1,q1⟩=>?_);refine wpAny_Slice (bJ (hl pins s1 σ H1 _ I1 q1) λvl s2 ⟨l,H2,I2,pl,q2⟩=>bJ (hu pins s2 σ H2 _ I2 q2) λvu s3 ⟨u,H3,I3,pu,q3⟩=>?_);rw[evalPart_none];refine wpAny_pure ?_;have I4:Inv X pins σ H3 { s3 with heap:=s3.heap.push { cls:=.type "slice",data:=.fields #[vl,vu,.none]} }:=I3.kept (t':=s3.toks) λb ob q=>Kd _ q
 obtain⟨T,id,hT,ht,hg⟩:=hr pins { s3 with heap:=s3.heap.push { cls:=.type "slice",data:=.fields #[vl,vu,.none]} } σ H3 x v vl vu l u s3.heap.objs.size Q I4 r1 (Kp.IsSliceOf.new ..) pl pu q3;show Kz (KF X.prog X.w) X.A (Rf e (.Slice lo hi none p2) v (.ref s3.heap.objs.size)) (EP X pins σ Q) X.xe { s3 with heap:=s3.heap.push { cls:=.type "slice",data:=.fields #[vl,vu,.none]} };exact tail_any (ops:=[.ref s3.heap.objs.size,v]) ht hT hg (by with_unfolding_all rfl)
def ky(xs:List V)(lo hi:Option Int):List V:=(xs.drop (HT.sIx xs.length 0 lo)).take (HT.sIx xs.length xs.length hi-HT.sIx xs.length 0 lo)
theorem jc(xs:List V)(lo hi:Option Int):(ky xs lo hi).length≤xs.length:=by
 unfold ky;rw[K0,OK];omega
def Gc(K:J5):V->Option Int->Option Int->Hp->VK->Prop:=λx lo hi H Q=>∃a xs,x=.ref a/\bH K H a xs∧
 ¬(HT.sIx xs.length 0 lo=0/\HT.sIx xs.length xs.length hi=xs.length)/\∀p,H p=none->Q (.ref p) (av H p (.tup (ky xs lo hi)))
theorem Ba:FO X (Gc X.K):=by
 intro pins s σ H x v vl vu lo hi sl Q I rx hs pl pu h;obtain⟨a,xs,rfl,hx,hw,q⟩:=h
 cases rx
 obtain⟨its,r,ht,hz⟩:=I.tuple hx;have hlen:its.toArray.size=xs.length:=by rw[KI];exact r.length.symm
 refine⟨"tuple",_,Nv.lookup,ht.typeIs,?_⟩;refine HT.getItem_tuple_cut ht hs pl pu (by rw[hlen];exact hw) ?_ (by rw[hlen];exact hz);rw[hlen];refine⟨.ref s.heap.objs.size,_,I.laid (t':=s.toks) (o:=.tup (ky xs lo hi)) (λb ob q=>Kd _ q) (Kb _) ?_,Z,q _ (I.hok.fresh (Kb _))⟩;exact⟨K5 (jc xs lo hi) hz,_,(r.drop (HT.sIx xs.length 0 lo)).take (HT.sIx xs.length xs.length hi-HT.sIx xs.length 0 lo),To _ _⟩
def IV(K:J5):R2:=λx y H Q=>∃a b ns ms,x=.ref a/\y=.ref b/\bH K H a (ns.map V.int)/\bH K H b (ms.map V.int)/\Q (.bl (HT.lexLt ns ms)) H
def Hl(K:J5):R2:=λx y H Q=>∃a b xs ys,x=.ref a/\y=.ref b/\bH K H a xs/\bH K H b ys/\xs≠[]/\xs.length+ys.length≤sizeLine∧
 (ys=[]->Q (.ref a) H)/\(ys≠[]->∀p,H p=none->Q (.ref p) (av H p (.tup (xs++ys))))
end
end L2
namespace L2
open PySem PySem.Spec PyProof.Rows
def xg(n:Nat)(i:Int):Option Nat:=if 0≤i then(if i<n then some i.toNat else none) else if -(n:Int)≤i then some (i+n).toNat else none
def pD{α:Type}(xs:List α)(i:Int):Option α:=(xg xs.length i).bind λj=>xs[j]?
theorem rP(h:xg n i=some j):Tr i n=some j/\j<n/\-(n:Int)≤i/\i<n:=by
 unfold xg at h;by_cases h0:0≤i
 ·rw[if_pos h0] at h;by_cases h1:i<n
  ·rw[if_pos h1] at h;have e:i.toNat=j:=Lu h;exact⟨by rw[Sx h0 h1,e],by omega,by omega,h1⟩
  ·rw[if_neg h1] at h;cases h
 ·rw[if_neg h0] at h;by_cases h1:-(n:Int)≤i
  ·rw[if_pos h1] at h;have e:(i+n).toNat=j:=Lu h;exact⟨by rw[RL (by omega) h1,e],by omega,h1,by omega⟩
  ·rw[if_neg h1] at h;cases h
theorem sk{xs:List α}(h:pD xs i=some v):∃j,Tr i xs.length=some j/\xs[j]?=some v/\j<xs.length/\-(xs.length:Int)≤i/\i<xs.length:=by
 unfold pD at h
 cases e:xg xs.length i with
 |none=>rw[e] at h;cases h
 |some j=>
  rw[e] at h;obtain⟨h1,h2,h3,h4⟩:=rP e;exact⟨j,h1,h,h2,h3,h4⟩
theorem aP{α:Type}{xs:List α}{j:Nat}{v:α}(h:xs[j]?=some v):pD xs (j:Int)=some v:=by
 have hj:j<xs.length:=(Kg.mp h).1;have e:xg xs.length (j:Int)=some j:=by
  unfold xg;rw[if_pos (by omega),if_pos (by omega)];simp
 unfold pD;rw[e];exact h
theorem xY(xs:List α)(v:α):pD (xs++[v]) (-1)=some v:=by
 have hl:(xs++[v]).length=xs.length+1:=by simp
 have e:xg (xs++[v]).length (-1)=some xs.length:=by
  unfold xg;rw[hl,if_neg (by decide),if_pos (by omega)]
  congr 1
  omega
 unfold pD;rw[e];show(xs++[v])[xs.length]?=some v;simp
def nK(b:Le):Prop:=∀o i,Py b false o i=Tv [o,i] (O4 o i)
def Dt(X:Cx)(r:R2):Prop:=
 ∀(value slice:Le) (pins:List (Addr×LY)) (s:Ka) (σ:St) (H:Hp) (x y:V) (v u:Value) (Q:VK),Inv X pins σ H s->aY x v->aY y u->r x y H Q→
  Py slice false v u=Tv [v,u] (O4 v u)->Kz (KF X.prog X.w) X.A (Rf value slice v u) (EP X pins σ Q) X.xe s
def GI(X:Cx)(id:String)(r:V->List V->Hp->VK->Prop):Prop:=
 ∀(pins:List (Addr×LY)) (s:Ka) (σ:St) (H:Hp) (x:V) (xs:List V) (v:Value) (us:List Value) (Q:VK),Inv X pins σ H s->aY x v->aZ xs us->r x xs H Q→
  Kz (KF X.prog X.w) X.A (call (.builtin id) (v::us)) (EP X pins σ Q) X.xe s
section
variable {X:Cx}{a b:Le}{ta tb:TE}{pos:NW}
theorem Ex(hr:Dt X r)(ha:PE X a ta)(hb:PE X b tb)(hs:nK b):PE X (.Subscript a b pos) (yD r ta tb):=by
 intro pins s σ H Q I h;exact SV (De ha hb I h λv u s2 x y H2 I2 rx ry q=>hr a b pins s2 σ H2 x y v u Q I2 rx ry q (hs _ _))
def BH(K:J5):R2:=λx y H Q=>∃p xs i v,x=.ref p/\y=.int i/\aO K H p xs/\pD xs i=some v/\Q v H
def BG(K:J5):R2:=λx y H Q=>∃p xs i v,x=.ref p/\y=.int i/\bH K H p xs/\pD xs i=some v/\Q v H
def Gg:R2:=λx y H Q=>∃z i c,x=.str z/\y=.int i/\z.length≤sizeLine/\pD z.cps.toList i=some c/\Q (.str ⟨#[c]⟩) H
theorem ba:Dt X (BH X.K):=by
 intro value slice pins s σ H x y v u Q I rx ry h hs;obtain⟨p,xs,i,z,rfl,rfl,hq,he,q⟩:=h
 cases rx
 obtain⟨t,rfl⟩:=ry;obtain⟨its,r,pl,hz⟩:=I.list hq;obtain⟨j,h1,h2,h3,h4,h5⟩:=sk he;obtain⟨w,ew,rw'⟩:=r.get h2;have hl:=r.length;have hn:=kh;have fin:EP X pins σ Q w s:=⟨z,H,I,rw',q⟩;by_cases h0:0≤i
 ·have hj:i.toNat=j:=by
   rw[Sx h0 h5] at h1;exact Lu h1
  exact item_listR pl.isList h0 (by omega) (by rw[hj];simpa using ew) fin hs
 ·have hj:(i+(its.toArray.size:Int)).toNat=j:=by
   rw[RL (by omega) h4] at h1;rw[KI,←hl];exact Lu h1
  exact Qq (x:=w) pl.isList.typeIs RM.lookup
   (wpAny_getItem_list_neg (Q:=λr s'=>r=w/\EP X pins σ Q r s') pl.isList (by omega) (by rw[KI]<;>omega) (by omega) (by rw[hj];simpa using ew) ⟨Z,fin⟩) hs
theorem ay:Dt X (BG X.K):=by
 intro value slice pins s σ H x y v u Q I rx ry h hs;obtain⟨p,xs,i,z,rfl,rfl,hq,he,q⟩:=h
 cases rx
 obtain⟨t,rfl⟩:=ry;obtain⟨its,r,pl,hz⟩:=I.tuple hq;obtain⟨j,h1,h2,h3,h4,h5⟩:=sk he;obtain⟨w,ew,rw'⟩:=r.get h2;have hl:=r.length;have hn:=kh;have fin:EP X pins σ Q w s:=⟨z,H,I,rw',q⟩;exact Qq (x:=w) pl.typeIs slot_tuple_getitem.lookup
  (getItem_tuple (j:=j) (Q:=λr s'=>r=w/\EP X pins σ Q r s') pl (by omega) (by omega) (by rw[KI,←hl];exact h1) (by simpa using ew) ⟨Z,fin⟩) hs
def JN(K:J5):R2:=λx y H Q=>BH K x y H Q∨BG K x y H Q∨Gg x y H Q
theorem qr(its:List Value)(n j:Nat)(u:Value):N4 (·.setIfInBounds j u) { cls:=.type "list",data:=.seq its.toArray n}={ cls:=.type "list",data:=.seq (its.set j u).toArray n}:=by
 simp[N4]
theorem Inv.lst{pins:List (Addr×LY)}{σ:St}{H:Hp}{s:Ka}{p:Addr}{xs:List V}(I:Inv X pins σ H s)(h:H p=some (.lst xs)) :
  ∃(its:List Value) (n:Nat),aZ xs its/\s.heap.get? p=some { cls:=.type "list",data:=.seq its.toArray n}/\xs.length≤sizeLine:=by
 obtain⟨z,its,n,r,e⟩:=I.hok p _ h;exact⟨its,n,r,e,z⟩
theorem Inv.lstUpd{pins:List (Addr×LY)}{σ:St}{H:Hp}{s:Ka}{p:Addr}{xs ys:List V}{its its':List Value}{n n':Nat}{f:LY->LY}(I:Inv X pins σ H s)(h:H p=some (.lst xs))
  (ho:s.heap.get? p=some { cls:=.type "list",data:=.seq its.toArray n}) (hf:f { cls:=.type "list",data:=.seq its.toArray n}={ cls:=.type "list",data:=.seq its'.toArray n'}) (r:aZ ys its') (hz:ys.length≤sizeLine) (t:Nat) :
  Inv X pins σ (av H p (.lst ys)) { s with heap:=s.heap.update p f,toks:=t}:=by
 have e:(s.heap.update p f).get? p=some { cls:=.type "list",data:=.seq its'.toArray n'}:=by
  rw[LX f ho (by rw[hf]<;>rfl),hf]
 refine I.write (x:=p) (e:=p) (by rw[h];trivial) (.inl Z) (λb u hb q=>(NE _ _ (M5 hb)).trans q) ⟨_,e⟩ ?_;exact⟨hz,its',n',r,e⟩
def Eh:V->V->V->Hp->(Hp->Prop)->Prop:=λo i v H Q=>∃p xs k j,o=.ref p/\i=.int k/\H p=some (.lst xs)/\xg xs.length k=some j/\Q (av H p (.lst (xs.set j v)))
theorem fD:yn X Eh:=by
 intro pins s σ H o i v ov iv u Q I ro ri rv h;obtain⟨p,xs,k,j,rfl,rfl,hp,hj,q⟩:=h
 cases ro
 obtain⟨t,rfl⟩:=ri;obtain⟨its,n,r,ho,hz⟩:=I.lst hp;obtain⟨h1,h2,h3,h4⟩:=rP hj;have hl:=r.length;have hn:=kh;have I':Inv X pins σ (av H p (.lst (xs.set j v))) { s with heap:=s.heap.update p (N4 (·.setIfInBounds j u))}:=
  I.lstUpd hp ho (qr its n j u) (r.set rv j) (by rw[Mw];exact hz) s.toks
 by_cases h0:0≤k
 ·have hk:k.toNat=j:=by
   rw[Sx h0 h4] at h1;exact Lu h1
  exact PySem.W.ki_setAt ho h0 (by omega) (by rw[KI,←hl];exact h4) (by rw[hk];exact⟨_,I',q⟩)
 ·have hk:(k+(its.toArray.size:Int)).toNat=j:=by
   rw[RL (by omega) h3] at h1;rw[KI,←hl];exact Lu h1
  exact PySem.W.ki_setBack ho (by omega) (by rw[KI,←hl];exact h3) (by omega) (by rw[hk];exact⟨_,I',q⟩)
theorem mK(lo hi:Option Int)(n:Nat):(Ou lo hi none n).1=((HT.sIx n 0 lo:Nat):Int)/\(Ou lo hi none n).2.1=((HT.sIx n n hi:Nat):Int)/\(Ou lo hi none n).2.2=1:=by
 refine⟨?_,?_,Z⟩
 ·cases lo with
  |none=>simp[Ou,HT.sIx]
  |some i=>
   simp only[Ou,HT.sIx,P5,show(1:Int)>0 by decide,if_true];by_cases h:i<0
   ·simp only[h,if_true]<;>omega
   ·simp only[h,if_false]<;>omega
 ·cases hi with
  |none=>simp[Ou,HT.sIx]
  |some i=>
   simp only[Ou,HT.sIx,P5,show(1:Int)>0 by decide,if_true];by_cases h:i<0
   ·simp only[h,if_true]<;>omega
   ·simp only[h,if_false]<;>omega
theorem kL(its:List Value)(lo hi:Option Int):slicePick its.toArray lo hi none=((its.drop (HT.sIx its.length 0 lo)).take (HT.sIx its.length its.length hi-HT.sIx its.length 0 lo)).toArray:=by
 obtain⟨h1,h2,h3⟩:=mK lo hi its.toArray.size;unfold slicePick;rw[h1,h2,h3];simp only[sliceRange_one,pick_run,KI]<;>rfl
def Ge(K:J5):V->Option Int->Option Int->Hp->VK->Prop:=λx lo hi H Q=>∃a xs,x=.ref a/\aO K H a xs/\∀p,H p=none->Q (.ref p) (av H p (.lst (ky xs lo hi)))
theorem mM:FO X (Ge X.K):=by
 intro pins s σ H x v vl vu lo hi sl Q I rx hs pl pu h;obtain⟨a,xs,rfl,hx,q⟩:=h
 cases rx
 obtain⟨its,r,ht,hz⟩:=I.list hx;have hlen:=r.length;refine⟨"list",_,RM.lookup,ht.isList.typeIs,?_⟩;refine wpAny_getItem_list_slice ht.isList hs pl pu .none (by simp) ?_ (by rw[KI]<;>omega);rw[kL,←hlen];refine⟨.ref s.heap.objs.size,_,I.laid (t':=s.toks) (o:=.lst (ky xs lo hi)) (λb ob q=>Kd _ q) (Kb _) ?_,Z,q _ (I.hok.fresh (Kb _))⟩;exact⟨K5 (jc xs lo hi) hz,_,0,(r.drop (HT.sIx xs.length 0 lo)).take (HT.sIx xs.length xs.length hi-HT.sIx xs.length 0 lo),Kq _ Z⟩
def iy:V->Bool
 | .non=>true
 | .bl _=>true
 | .int _=>true
 | .str _=>true
 |_=>false
def AV:V->V->Bool
 | .non,.non=>true
 | .bl a,.bl b=>a==b
 | .bl a,.int b=>(if a then 1 else 0)==b
 | .int a,.bl b=>a==(if b then 1 else 0)
 | .int a,.int b=>a==b
 | .str a,.str b=>a==b
 |_,_=>false
theorem C7(ry:aY y u)(rx:aY x v)(fy:iy y=true)(fx:iy x=true):LQ A s u v (AV y x):=by
 cases y with
 |non=>
  cases ry
  cases x with
  |non=>cases rx;exact LQ.same _
  |bl b=>cases rx;exact LQ.none_bool b
  |int b=>obtain⟨t,rfl⟩:=rx;exact LQ.none_int b t
  |str b=>obtain⟨t,rfl⟩:=rx;exact LQ.none_str b t
  |_=>exact absurd (show false=true from fx) Kj
 |bl a=>
  cases ry
  cases x with
  |non=>cases rx;exact LQ.bool_none a
  |bl b=>cases rx;exact LQ.bool_bool a b
  |int b=>obtain⟨t,rfl⟩:=rx;exact LQ.bool_int a b t
  |str b=>obtain⟨t,rfl⟩:=rx;exact LQ.bool_str a b t
  |_=>exact absurd (show false=true from fx) Kj
 |int a=>
  obtain⟨t',rfl⟩:=ry
  cases x with
  |non=>cases rx;exact LQ.int_none a t'
  |bl b=>cases rx;exact LQ.int_bool a t' b
  |int b=>obtain⟨t,rfl⟩:=rx;exact LQ.int_int a t' b t
  |str b=>obtain⟨t,rfl⟩:=rx;exact Rk a t' b t
  |_=>exact absurd (show false=true from fx) Kj
 |str a=>
  obtain⟨t',rfl⟩:=ry
  cases x with
  |non=>cases rx;exact LQ.str_none a t'
  |bl b=>cases rx;exact LQ.str_bool a t' b
  |int b=>obtain⟨t,rfl⟩:=rx;exact Rm a t' b t
  |str b=>obtain⟨t,rfl⟩:=rx;exact LQ.str_str a t' b t
  |_=>exact absurd (show false=true from fx) Kj
 |_=>exact absurd (show false=true from fy) Kj
def z7(x:V)(u:Value):Bool:=match u with
 | .none=>AV .non x
 | .bool b=>AV (.bl b) x
 | .int i _=>AV (.int i) x
 | .str z _=>AV (.str z) x
 |_=>false
theorem xJ(r:aY y u)(f:iy y=true):z7 x u=AV y x:=by
 cases y with
 |non=>cases r;rfl
 |bl b=>cases r;rfl
 |int i=>obtain⟨t,rfl⟩:=r;rfl
 |str z=>obtain⟨t,rfl⟩:=r;rfl
 |_=>exact absurd (show false=true from f) Kj
theorem nJ{x:V}:∀{xs:List V} {us:List Value},aZ xs us->xs.all iy=true->us.any (z7 x)=xs.any λy=>AV y x
 |_,_,.nil,_=>rfl
 |y::xs,u::us,.cons r t,f=>by
  rw[OR,LG] at f;rw[NS,NS,xJ r f.1,nJ t f.2]
theorem kf{A:K3}{s:Ka}{x:V}{v:Value}(rx:aY x v)(fx:iy x=true):∀{xs:List V} {us:List Value},aZ xs us->xs.all iy=true->∀u∈us,LQ A s u v (z7 x u)
 |_,_,.nil,_=>λu hu=>by cases hu
 |y::xs,u::us,.cons r t,f=>λu' hu=>by
  rw[OR,LG] at f;rcases Kn.mp hu with rfl|hu
  ·rw[xJ r f.1];exact C7 r rx f.1 fx
  ·exact kf rx fx t f.2 u' hu
def CW(x:V)(xs:List V):Bool:=xs.any λy=>AV y x
def Hi(K:J5)(neg:Bool):R2:=λx y H Q=>∃p xs,y=.ref p/\(aO K H p xs∨bH K H p xs)/\iy x=true/\xs.all iy=true/\Q (.bl (if neg then !CW x xs else CW x xs)) H
theorem mY:fJ X (LB .NotIn) (Hi X.K true):=by
 intro pins s σ H x y v u Q I rx ry h;obtain⟨p,xs,rfl,hq,fx,fs,q⟩:=h
 cases ry
 rcases hq with hq|hq
 ·obtain⟨its,r,pl,hz⟩:=I.list hq;refine SeqAt.notIn_listAt (z7 x) pl.isList (λw hw=>kf rx fx r fs w (by simpa using hw)) ⟨.bl _,H,I,Z,?_⟩;rw[show its.toArray.any (z7 x)=its.any (z7 x) by simp,nJ r fs];exact q
 ·obtain⟨its,r,pl,hz⟩:=I.tuple hq;refine SeqAt.notIn_tupleAt (z7 x) pl (λw hw=>kf rx fx r fs w (by simpa using hw)) ⟨.bl _,H,I,Z,?_⟩;rw[show its.toArray.any (z7 x)=its.any (z7 x) by simp,nJ r fs];exact q
theorem aI:cM X (.builtin "len") (λxs H Q=>∃p ys,xs=[.ref p]/\(aO X.K H p ys∨bH X.K H p ys)/\Q (.int ys.length) H):=by
 intro pins s σ H xs us Q I r h;obtain⟨p,ys,rfl,hq,q⟩:=h;obtain⟨u,rfl,rx⟩:=fU r
 cases rx
 have hn:=kh;rcases hq with hq|hq
 ·obtain⟨its,r',pl,hz⟩:=I.list hq;have hlen:=r'.length;exact Calls.call_len_list pl.isList (by simp only[KI]<;>omega) ⟨.int ys.length,H,I.tok _,⟨s.toks+1,by rw[KI,hlen]⟩,q⟩
 ·obtain⟨its,r',pl,hz⟩:=I.tuple hq;have hlen:=r'.length;exact len_tuple pl (by simp only[KI]<;>omega) ⟨.int ys.length,H,I.tok _,⟨s.toks+1,by rw[KI,hlen]⟩,q⟩
theorem iE:cM X (.type "list") (λxs H Q=>∃p ys,xs=[.ref p]/\(aO X.K H p ys∨bH X.K H p ys)/\∀l,H l=none->Q (.ref l) (av H l (.lst ys))):=by
 intro pins s σ H xs us Q I r h;obtain⟨p,ys,rfl,hq,q⟩:=h;obtain⟨u,rfl,rx⟩:=fU r
 cases rx
 have fin:∀(its:List Value),aZ ys its->ys.length≤sizeLine->∀(h':Kp) (c':Nat),(∀b o',s.heap.get? b=some o'->h'.get? b=some o')→
   h'.get? s.heap.objs.size=some { cls:=.type "list",dict:=none,data:=.seq its.toArray c',slots:=#[]}->EP X pins σ Q (.ref s.heap.objs.size) { s with heap:=h'}:=λits r' hz h' c' kp e=>
  ⟨.ref s.heap.objs.size,_,I.laid (t':=s.toks) kp (Kb _) (show bo X.prog X.w _ h' _ (.lst ys) from⟨hz,its,c',r',e⟩),Z,q _ (I.hok.fresh (Kb _))⟩
 rcases hq with hq|hq
 ·obtain⟨its,r',pl,hz⟩:=I.list hq;have hlen:=r'.length;obtain⟨o,ho,hc,n,hd⟩:=pl.isList;exact call_list_seq p (.inl Z) ho hc hd (λh' c' kp e=>fin its r' hz h' c' kp e) (by simp only[KI]<;>omega)
 ·obtain⟨its,r',pl,hz⟩:=I.tuple hq;have hlen:=r'.length;obtain⟨o,ho,hc,n,hd⟩:=pl;exact call_list_seq p (.inr Z) ho hc hd (λh' c' kp e=>fin its r' hz h' c' kp e) (by simp only[KI]<;>omega)
theorem cV:cM X (.type "tuple") (λxs H Q=>∃p ys,xs=[.ref p]/\((aO X.K H p ys/\∀l,H l=none->Q (.ref l) (av H l (.tup ys)))∨(bH X.K H p ys/\Q (.ref p) H))):=by
 intro pins s σ H xs us Q I r h;obtain⟨p,ys,rfl,h⟩:=h;obtain⟨u,rfl,rx⟩:=fU r
 cases rx
 rcases h with⟨hq,q⟩ | ⟨hq,q⟩
 ·obtain⟨its,r',pl,hz⟩:=I.list hq;have hlen:=r'.length;refine call_tuple_list pl.isList (λh' kp=>?_) (by simp only[KI]<;>omega);have I1:Inv X pins σ H { s with heap:=h'}:=I.kept (t':=s.toks) kp;have I2:Inv X pins σ (av H h'.objs.size (.tup ys)) { s with heap:=h'.push { cls:=.type "tuple",data:=.seq its.toArray} }:=
   I1.laid (t':=s.toks) (λb o e=>Kd _ e) (Kb _) (show bo X.prog X.w _ _ _ (.tup ys) from⟨hz,its,r',To _ _⟩)
  exact⟨.ref h'.objs.size,_,I2,Z,q _ (I1.hok.fresh (Kb _))⟩
 ·obtain⟨its,r',pl,hz⟩:=I.tuple hq;exact call_tuple_same pl ⟨.ref p,H,I,Z,q⟩
def FX(K:J5)(T:String)(x:V)(H:Hp):Prop:=match x with
 | .str _=>T = "str"
 | .int _=>T = "int"
 | .ref p=>(T = "list"/\∃xs,aO K H p xs)∨(T = "tuple"/\∃o,K.lookup p=some o/\o.cls=.type "tuple"/\o.dict=none)∨
   (T = "dict"/\((∃kvs,H p=some (.dK kvs))∨∃kvs,H p=some (.dT kvs)))∨(T = "set"/\∃S n,H p=some (.set S n))
 |_=>False
theorem A2{pins:List (Addr×LY)}{σ:St}{H:Hp}{s:Ka}{T:String}{x:V}{v:Value}(I:Inv X pins σ H s)(r:aY x v)(ty:FX X.K T x H) :
  s.TypeIs v T/\∀a,v=.ref a->∃ob,s.heap.get? a=some ob/\ob.dict=none:=by
 cases x with
 |str z=>
  obtain⟨t,rfl⟩:=r
  cases(show T = "str" from ty)
  exact⟨typeIs_str s z t,λ_ e=>nomatch e⟩
 |int i=>
  obtain⟨t,rfl⟩:=r
  cases(show T = "int" from ty)
  exact⟨SW s i t,λ_ e=>nomatch e⟩
 |ref p=>
  cases r
  rcases ty with⟨rfl,xs,hq⟩ | ⟨rfl,o,hk,hc,hd⟩ | ⟨rfl,hk⟩ | ⟨rfl,S,n,hk⟩
  ·obtain⟨its,_,pl,_⟩:=I.list hq;refine⟨pl.isList.typeIs,λa e=>?_⟩
   cases e
   obtain⟨o,n,e,c,hd,_⟩:=pl;exact⟨o,e,hd⟩
  ·refine⟨⟨o,I.kIn p o hk,hc⟩,λa e=>?_⟩
   cases e
   exact⟨o,I.kIn _ o hk,hd⟩
  ·have z:∃o,s.heap.get? p=some o/\o.ExactDict:=by
    rcases hk with⟨kvs,hk⟩ | ⟨kvs,hk⟩
    ·obtain⟨_,_,_,_,o,_,_,e,ex,_⟩:=I.hok p _ hk;exact⟨o,e,ex⟩
    ·obtain⟨_,_,_,_,o,_,_,e,ex,_⟩:=I.hok p _ hk;exact⟨o,e,ex⟩
   obtain⟨o,e,ex⟩:=z;refine⟨⟨o,e,ex.1⟩,λa e2=>?_⟩
   cases e2
   exact⟨o,e,ex.2.1⟩
  ·obtain⟨o,_,_,_,e,ex,_⟩:=I.hok p _ hk;refine⟨⟨o,e,ex.1⟩,λa e2=>?_⟩
   cases e2
   exact⟨o,e,ex.2.1⟩
 |_=>exact MY ty
def IL(K:J5)(T:String)(r:V->List V->Hp->VK->Prop)(to:TE):TE:=λσ H Q=>to σ H λx H1=>FX K T x H1/\r x [] H1 Q
def G5(K:J5)(T:String)(r:V->List V->Hp->VK->Prop)(to:TE)(t:TA):TE:=λσ H Q=>to σ H λx H1=>FX K T x H1/\t σ H1 λxs H2=>r x xs H2 Q
variable {o e:Le}{es:List Le}{to:TE}{t:TA}{name:K1}{apos cpos:NW}{T id:String}{r:V->List V->Hp->VK->Prop}
theorem Ey(pa:PlainAttrs T)(slot:Slot T name id)(hty:typeOf (.builtin id)=Mz (.type "method_descriptor"))(hm:GI X id r)(ho:PE X o to)(ha:PA X (e::es) t)
  (hbase:MJ o name X.env (eval o X.env)=eval o X.env:=by rfl)
  (hfew:((MW cpos (Kr (e::es) X.env)).all (λx=>!x.1)&&(OU cpos (NA [] X.env)).all (λx=>x.1.isSome)
  &&decide ((e::es).length+([]:List O6).length+(if([]:List O6).isEmpty then 0 else 1)<30))=true:=by rfl)
  (hline:(apos.endLine==cpos.line)=true:=by rfl) (hs:Kr (e::es) X.env=(false,eval e X.env)::Kr es X.env:=by rfl) (hplain:(MW cpos (Kr es X.env)).any (·.1)=false:=by rfl) :
  PE X (.Call (.Attribute o name apos) (e::es) [] cpos) (G5 X.K T r to t):=by
 intro pins s σ H Q I h;refine wpAny_Call_method_late hbase hfew hline Z (bJ (ho pins s σ H _ I h) λv s1 ⟨x,H1,I1,r1,ty,q1⟩=>?_);obtain⟨h1,h2⟩:=A2 I1 r1 ty;refine⟨T,id,pa,slot,hty,h1,h2,?_⟩;have hA:=ha cpos pins s1 σ H1 _ I1 q1;rw[hs] at hA ⊢;refine Calls.callWith_builtin (by show(false||(MW cpos (Kr es X.env)).any (·.1))=false;rw[hplain]<;>rfl) (Calls.evalArgs_plain ?_);exact bJ hA λus s2 ⟨vs,H2,I2,r2,q2⟩=>hm pins s2 σ H2 x vs v us Q I2 r1 r2 q2
end
end L2
namespace L2
open PySem PySem.Spec PyProof.Rows
def Jr(X:Cx)(id:String)(r:V->List V->Hp->VK->Prop):Prop:=
 ∀(pins:List (Addr×LY)) (s:Ka) (σ:St) (H:Hp) (x:V) (xs:List V) (v:Value) (us:List Value) (Q:VK),Inv X pins σ H s->aY x v->aZ xs us->r x xs H Q→
  Kz (KF X.prog X.w) X.A (call (.builtin id) (v::us)) (EP X pins σ Q) X.xe s
theorem aZ.one:∀{x:V} {us:List Value},aZ [x] us->∃u,us=[u]/\aY x u
 |_,_,.cons r .nil=>⟨_,Z,r⟩
section
variable {X:Cx}{pins:List (Addr×LY)}{σ:St}{H:Hp}{s:Ka}{l b:Addr}{xs ys zs:List V}
theorem Inv.lset{its its':List Value}(I:Inv X pins σ H s)(hH:H l=some (.lst xs))
  (e:s.heap.get? l=some { cls:=.type "list",data:=.seq its.toArray n}) (hf:f its.toArray=its'.toArray) (hv:aZ ys its') (hz:ys.length≤sizeLine):
  Inv X pins σ (av H l (.lst ys)) { s with heap:=s.heap.update l (N4 f),toks:=t'}:=by
 have q:=PySem.IsL.update e f;rw[hf] at q;refine I.write (x:=l) (e:=l) (by rw[hH];exact trivial) (.inl Z) (λb' u hb hu=>(NE s.heap (N4 f) (M5 hb)).trans hu) ⟨_,q⟩ ?_;exact⟨hz,its',_,hv,q⟩
theorem Inv.lnew(I:Inv X pins σ H s)(hv:aZ ys its)(hz:ys.length≤sizeLine):
  Inv X pins σ (av H s.heap.objs.size (.lst ys)) { s with heap:=s.heap.push { cls:=.type "list",data:=.seq its.toArray},toks:=t'}:=
 I.laid (λ_ _ q=>Kd _ q) (Kb _) ⟨hz,its,0,hv,Kq _ Z⟩
theorem Inv.fresh(I:Inv X pins σ H s):H s.heap.objs.size=none:=I.hok.fresh (Kb _)
theorem Inv.lstM(I:Inv X pins σ H s)(hH:H l=some (.lst xs)):xs.length≤sizeLine/\∃(its:List Value) (n:Nat),aZ xs its/\xs.length=its.length/\s.heap.get? l=some { cls:=.type "list",data:=.seq its.toArray n}:=by
 obtain⟨z,its,n,r,e⟩:=I.hok l _ hH;exact⟨z,its,n,r,r.length,e⟩
end
section
variable {X:Cx}
def yS:V->List V->Hp->VK->Prop:=λx vs H Q=>∃l xs y,x=.ref l/\vs=[y]/\H l=some (.lst xs)/\xs.length<sizeLine/\Q .non (av H l (.lst (xs++[y])))
theorem cF:Jr X "list.append" yS:=by
 intro pins s σ H x vs v us Q I rx rv h;obtain⟨l,xs,y,rfl,rfl,hH,hz,q⟩:=h
 cases rx
 obtain⟨u,rfl,ru⟩:=rv.one;obtain⟨z,its,n,r,hl,e⟩:=I.lstM hH;refine Rr F.slot_list_append ⟨_,e,Z⟩ F.entry_list_append (F.args_list_append_2 _ _) (PySem.list_append l its.toArray n u (by rw[KI];omega)) ⟨e,?_⟩;refine⟨.non,_,I.lset (its':=its++[u]) hH e (by simp) (r.append (.cons ru .nil)) ?_,Z,q⟩;rw[Ko,Ld];omega
def FL:V->List V->Hp->VK->Prop:=λx vs H Q=>∃l b xs zs,x=.ref l/\vs=[.ref b]/\H l=some (.lst xs)/\H b=some (.lst zs)/\xs.length+zs.length≤sizeLine/\Q .non (av H l (.lst (xs++zs)))
def IT:V->List V->Hp->VK->Prop:=λx vs H Q=>∃l xs y,x=.ref l/\vs=[]/\H l=some (.lst xs)/\xs[xs.length-1]?=some y/\Q y (av H l (.lst xs.dropLast))
def Gf:V->List V->Hp->VK->Prop:=λx vs H Q=>∃l xs i k y,x=.ref l/\vs=[.int i]/\H l=some (.lst xs)/\-(2^63)≤i/\i<2^63/\Tr i xs.length=some k/\xs[k]?=some y/\Q y (av H l (.lst (xs.eraseIdx k)))
def Ei:V->List V->Hp->VK->Prop:=λx vs H Q=>∃l xs,x=.ref l/\vs=[]/\H l=some (.lst xs)/\Q .non (av H l (.lst xs.reverse))
def Gm:V->List V->Hp->VK->Prop:=λx vs H Q=>∃l xs,x=.ref l/\vs=[]/\H l=some (.lst xs)/\Q .non (av H l (.lst []))
def Gn:R2:=λx y H Q=>∃l b xs zs,x=.ref l/\y=.ref b/\H l=some (.lst xs)/\H b=some (.lst zs)/\xs.length+zs.length≤sizeLine/\∀p,H p=none->Q (.ref p) (av H p (.lst (xs++zs)))
theorem mZ:fJ X (NK .Add) Gn:=by
 intro pins s σ H x y v u Q I rx ry h;obtain⟨l,b,xs,zs,rfl,rfl,hH,hB,hz,q⟩:=h
 cases rx
 cases ry
 obtain⟨z,its,n,r,hl,e⟩:=I.lstM hH;obtain⟨z2,its2,n2,r2,hl2,e2⟩:=I.lstM hB;refine PySem.P.add_list e e2 ?_ (by rw[KI,KI];omega);have ea:its.toArray++its2.toArray=(its++its2).toArray:=by simp
 rw[ea];exact⟨.ref _,_,I.lnew (t':=s.toks) (r.append r2) (by rw[Ko];omega),Z,q _ I.fresh⟩
def IS:R2:=λx y H Q=>∃l k xs,x=.ref l/\y=.int k/\H l=some (.lst xs)/\-(2^63)≤k/\k<2^63/\xs.length*k.toNat≤sizeLine∧
 ∀p,H p=none->Q (.ref p) (av H p (.lst (Ki k.toNat xs).flatten))
end
section
variable {prog:KZ}{w:Lk}{A:K3}{E:Value->Ka->Prop}{s:Ka}
end
section
variable {X:Cx}
end
end L2
namespace Att
open PySem PySem.W PySem.Calls PyProof.Rows
theorem jo:∀(ns:List Int) (vs:List Value),WellAll P h vs (ns.map WData.int)->Nf vs ns:=by
 intro ns
 induction ns with
 |nil=>
  intro vs w;rw[OE] at w
  cases w
  exact .nil
 |cons n ns ih=>
  intro vs w;rw[KH] at w
  cases w with
  |cons a b=>
   cases a
   exact .cons _ _ (ih _ b)
theorem sZ{l:OpenLaw}(hn:l.most=some n){h:Kp} 
  (hpre:l.row.toRowW.claim.pre args=true) (hwl:WellAll P h vals args):
  ∃a vs ns,vals=[K7 a]/\args=[WData.list (ns.map WData.int)]/\h.get? a=some { cls:=.type "list",data:=.seq vs.toArray}/\Nf vs ns/\ns.length≤n:=by
 have hsh:WShape.hasAll [] args [.list .int]=true:=(pre_splitW hpre).1;have hc:l.pre.holds [] { args:=args}=true:=(pre_splitW hpre).2;obtain⟨d,r,rfl,h1,h2⟩:=hasAllW_cons hsh;obtain rfl:=hasAllW_nil h2;obtain⟨xs,rfl,h3⟩:=hasW_list h1;obtain⟨ns,rfl⟩:=items_int h3;have hlen:ns.length≤n:=by
  unfold OpenLaw.pre at hc;have h4:(WTm.not (.lt (.lit (.int (n:Int))) (.len (.arg 0)))).holds [] { args:=[.list (ns.map .int)]}=true:=by
   have h4:=(holds_andW hc).1;rw[hn] at h4;exact h4
  have h5:=condW_of h4 (w_not (w_lt w_lit (w_len_list (w_arg Z))));rw[J7] at h5;refine Nat.le_of_not_lt λq=>?_
  have q':(n:Int)<((ns.length:Nat):Int):=by omega
  first
   | (rw[decide_eq_true q'] at h5;exact absurd h5 (by decide))
   | (simp at h5;omega)
 cases hwl with
 |cons w1 w2=>
  cases w2
  cases w1 with
  |list ho hall=>exact⟨_,_,ns,Z,Z,ho,jo ns _ hall,hlen⟩
theorem tD(l:OpenLaw)(args:List WData):l.row.toRowW.claim.post args (.bool true) args=true:=
 postW_of (r:=l.row.toRowW) (X:=(true==true))
  (show WShape.has [] (.bool true) .bool=true by first|rfl|decide|simp[WShape.has,WShape.arms,WShape.armsAll])
  (show(WTm.eq .res (.lit (.bool true))).value [] { args:=args,res:=some (.bool true),after:=args}=some (.bool (true==true)) from w_eq_bool (w_res Z) w_lit) Z
theorem attach_call{l:OpenLaw}{d:DefRec}
  (hn:l.most=some n) (hdf:d.params.defaults=[])
  (call:∀(w:Lk) (s₀ s₁:Ka) (mg mb:K1->Option Value) (fa:Addr) (o:LY) (pm cd doc:Value) (a:Addr) (vs:List Value) (ns:List Int),
   Ground q loose [] XP w s₀ mg mb s₁.heap->YP w s₁.heap→
   s₁.heap.get? fa=some o->o.data=.func (docDef d.name d.params d.body d.scope pm cd doc)->s₁.heap.CodeRec cd d.name->mg d.name=some (.ref fa)→
   s₁.heap.get? a=some { cls:=.type "list",data:=.seq vs.toArray}->Nf vs ns->ns.length≤n->s₁.gens=#[]→
   OB (KF l.prog w) Q3 (.call (.ref fa) ⟨[.ref a],[]⟩) (λr s'=>r=.ok (.ret (.bool true))/\OldK s₁.heap s'.heap/\s'.os=s₁.os/\OQ s'.gens) s₁):
  WalkO q loose XP YP l.row.toRowW d [] (λf vs=>SX f vs):=by
 intro w s₀ s₁ mg mb G Y fa o pm cd doc dV kV ho hd hcd hD hmg hg args vals as hpre hlay hrd hwl hlo;obtain rfl:dV=.none:=Dflts.none hD hdf;obtain rfl:kV=.none:=Dflts.noKw hD;obtain⟨a,vs,ns,rfl,rfl,hobj,hints,hlen⟩:=sZ hn hpre hwl;refine enter_call (OC (call w s₀ s₁ mg mb fa o pm cd doc a vs ns G Y ho (fd_plain hd) hcd hmg hobj hints hlen hg) λr s' hq=>?_);obtain⟨rfl,h2,h3,h4⟩:=hq;exact⟨.inl ⟨.bool true,.bool true,[],Z,λ_=>Z,.bool true,tD l _,λ_=>⟨Te.nil,λ_ hm=>(nomatch hm)⟩⟩,h2,h3,h4⟩
section
variable {prog:KZ}{w:Lk}{A:K3}{E:Value->Ka->Prop}{s:Ka}{K:Frag}
def Gq(h:Kp):Kp:={ h with objs:=#[]}
def Gu(h:Kp)(L d:Addr):List (Addr×LY):=(J9 h.objs.size).filterMap λa=>if a=L∨a=d then none else(h.get? a).map λo=>(a,o)
end
end Att
namespace L2
open PySem PySem.Spec PyProof.Rows
theorem kZ:∀{vs:List Value} {ns:List Int},Nf vs ns->aZ (ns.map V.int) vs
 |_,_,.nil=>.nil
 |_,_,.cons n t h=>.cons ⟨t,Z⟩ (kZ h)
def Dq(H:Hp):Prop:=∀b,H b=none∨∃o xs,H b=some (.frz o (.lst xs))
theorem xf{K:J5}{s₁:Ka}{vs:List Value}{ns:List Int}
  (KX:K.In s₁.heap) (hns:s₁.heap.Ns KO mg) (hb:s₁.heap.Ns SJ mb) (hbb:∀x:K1,x ≠ "__name__"->mb x=MH x) (hlim:s₁.heap.NoLimit) (hg:s₁.gens=#[])
  (ha:s₁.heap.get? a=some { cls:=.type "list",data:=.seq vs.toArray}) (hi:Nf vs ns) (hl:ns.length≤sizeLine) (hr:cR k Q3)
  (F:∀base:Kp,K.In base->base.Ns KO mg->bu P w K mg base CX k fa fd [x] sp) (hbind:∀(s:Ka) (u:Value),Qo s fd ⟨[u],[]⟩ [(x,u)])
  (hsp:∀H:Hp,Dq H->aO K H a (ns.map V.int)->sp [.ref a] H (λv _=>v=.bl true) λ_ _ _=>False)
  (hCX:∀H e s',CX [] H s₁ (λ_ _ _=>False) e s'->False):
  OB (KF P w) Q3 (.call (.ref fa) ⟨[.ref a],[]⟩) (λr s'=>r=.ok (.ret (.bool true))/\OldK s₁.heap s'.heap/\s'.os=s₁.os/\OQ s'.gens) s₁:=by
 have rv:=kZ hi;have lenV:=hi.length;have core:∀H:Hp,Dq H->aO K H a (ns.map V.int)->gS P w H s₁.heap->(∀b,H b≠none->b=a)->(H a≠none->K.lookup a=none)→
   OB (KF P w) Q3 (.call (.ref fa) ⟨[.ref a],[]⟩) (λr s'=>r=.ok (.ret (.bool true))/\OldK s₁.heap s'.heap/\s'.os=s₁.os/\OQ s'.gens) s₁:=by
  intro H hO hS hok hA hK;have base_of:∀{b:Addr} {o:LY},s₁.heap.get? b=some o->H b=none->(nA s₁.heap H).get? b=some o:=λe n=>xp e n
  have noA:∀{b:Addr} {o:LY} {es:Array Q2} {ep:Nat},s₁.heap.get? b=some o->o.data=.dict es ep->H b=none:=λ{b o es ep} e d=>by
   cases q:H b with
   |none=>rfl
   |some u=>
    have e':b=a:=hA b (by rw[q];simp);subst e';rw[ha] at e;cases e;have d':TC.seq vs.toArray _=TC.dict es ep:=d
    cases d'
  have nsK:∀{b:Addr} {m:K1->Option Value},s₁.heap.Ns b m->(nA s₁.heap H).Ns b m:=λ{b m} ⟨o,es,ep,e,d,r⟩=>⟨o,es,ep,base_of e (noA e d),d,r⟩
  have hKb:K.In (nA s₁.heap H):=λb o e=>base_of (KX b o e) (by
   cases q:H b with
   |none=>rfl
   |some u=>
    have e':b=a:=hA b (by rw[q];simp);subst e';rw[hK (by rw[q];simp)] at e;cases e)
  have hM:Mod K mg (nA s₁.heap H):=⟨hKb,nsK hns,⟨mb,nsK hb,hbb⟩,let ⟨mc,h1,h2⟩:=hlim;⟨mc,nsK h1,h2⟩⟩;have e0:pG P w K mg (nA s₁.heap H) Q3 [] s₁ H:=⟨Z,hM,λb o e=>zN e,Qm (tV _ _),trivial,λb hb=>absurd (show b∈([]:List Addr) from hb) (by simp),hok,.of_eq hg⟩;refine OC ((F _ hKb (nsK hns)).run Q3 [] s₁ H ⟨[.ref a],[]⟩ [.ref a] [.ref a] _ _ hr e0 (hbind s₁ (.ref a)) (.cons Z .nil) (hsp H hO hS)) λr s' h=>?_
  cases r with
  |error e=>exact(hCX H e s' h).elim
  |ok fl=>
   cases fl with
   |next=>exact MY h
   |brk=>exact MY h
   |cont=>exact MY h
   |ret u=>
    obtain⟨v,H',os,bare,un,hok',r',q⟩:=h;have q':v=.bl true:=q;subst q';obtain rfl:u=Om true:=r';refine⟨Z,OldK.of_keep λb o e=>?_,os,bare⟩
    cases q:H b with
    |none=>exact un.keep b o e q (by intro z;exact absurd (show b∈([]:List Addr) from z) (by simp)) (by simp)
    |some u=>
     rcases hO b with z | ⟨ob,xs,z⟩
     ·rw[q] at z;cases z
     ·have z2:=un.frzs b ob _ z;obtain⟨e1,_⟩:=hok b _ z;obtain⟨e2,_⟩:=hok' b _ z2;rw[e] at e1;cases e1;exact e2
 cases hk:K.lookup a with
 |some o=>
  have e:=KX a o hk;rw[ha] at e
  cases e
  refine core (λ_=>none) (λ_=>.inl Z) (.inr ⟨_,vs.toArray,_,hk,Z,Z,Z,by rw[KI,lenV];exact hl,by simpa using rv⟩) (λb u z=>by have z':(none:Option HO)=some u:=z;cases z') (λb z=>absurd Z z) λz=>absurd Z z
 |none=>
  refine core (λb=>if b=a then some (.frz { cls:=.type "list",data:=.seq vs.toArray} (.lst (ns.map V.int))) else none) (λb=>?_) (.inl (.inr ⟨{ cls:=.type "list",data:=.seq vs.toArray},if_pos Z⟩)) (λb u z=>?_) (λb z=>?_) λ_=>hk
  ·by_cases hb:b=a
   ·exact .inr ⟨_,_,if_pos hb⟩
   ·exact .inl (if_neg hb)
  ·by_cases hb:b=a
   ·have z':=(if_pos hb).symm.trans z
    cases z'
    subst hb;exact⟨ha,by rw[J7];exact hl,vs,_,rv,ha⟩
   ·have z':=(if_neg hb).symm.trans z
    cases z'
  ·by_cases hb:b=a
   ·exact hb
   ·exact absurd (if_neg hb) z
end L2
namespace L2
open PySem PySem.Spec PyProof.Rows
abbrev J0{K:J5}{h:Kp}(_:K.In h):J5:=K
theorem walk_of{l:SG}{loose:List K1}{XP:(K1->Option Value)->Kp->Prop}{YP:Lk->Kp->Prop}{d:DefRec}{K:Params->J5}{CX:Lk->pH}{sp:Lk->Sp} 
  (hn:l.most=some n) (hn2:n≤sizeLine) (hdf:d.params.defaults=[]) (hr:cR k Q3)
  (hY:∀(w:Lk) (h:Kp),YP w h->(K w.params).In h)
  (F:∀(w:Lk) (mg:K1->Option Value) (fa:Addr) (h:Kp),(K w.params).In h->h.Ns KO mg->mg d.name=some (.ref fa)→
   ∃fd:Kh,(∀(s:Ka) (u:Value),Qo s fd ⟨[u],[]⟩ [(x,u)])∧
    ∀base:Kp,(K w.params).In base->base.Ns KO mg->bu l.prog w (K w.params) mg base (CX w) k fa fd [x] (sp w))
  (hsp:∀(w:Lk) (H:Hp) (a:Addr) (ns:List Int),ns.length≤n->Dq H->aO (K w.params) H a (ns.map V.int)->sp w [.ref a] H (λv _=>v=.bl true) λ_ _ _=>False)
  (hCX:∀(w:Lk) (H:Hp) (s:Ka) (e:Value) (s':Ka),CX w [] H s (λ_ _ _=>False) e s'->False):
  Tf q loose XP YP l.row.toRowW d [] (λf vs=>SX f vs):=by
 refine Att.attach_call hn hdf λw s₀ s₁ mg mb fa o pm cd doc a vs ns G Y ho hd hcd hmg hobj hints hlen hg=>?_
 have KX:=hY w _ Y;obtain⟨fd,hb,hF⟩:=F w mg fa _ KX G.T.g hmg;exact xf KX G.T.g G.T.b G.T.builtins G.T.nolimit hg hobj hints (K5 hlen hn2) hr hF hb (λH hO hS=>hsp w H a ns hlen hO hS) λH e s'=>hCX w H s₁ e s'
end L2
namespace L2
open PySem PySem.Spec PyProof.Rows
def d8(s:Stmt)(j:Nat):Stmt:=match s with
 | .ClassDef _ _ _ body _ _ _ _ _ _ _=>body.getD j (.Pass ⟨0,0,0,0⟩)
 |_=>.Pass ⟨0,0,0,0⟩
def dh(s:Stmt):Arguments:=match s with
 | .FunctionDef _ a _ _ _ _ _ _ _ _=>a
 |_=>{ posonlyargs:=[],args:=[],vararg:=none,kwonlyargs:=[],kw_defaults:=[],kwarg:=none,defaults:=[]}
def cY(s:Stmt):List Stmt:=match s with
 | .FunctionDef _ _ b _ _ _ _ _ _ _=>b
 |_=>[]
def aq(s:Stmt):Oa:=match s with
 | .FunctionDef _ _ _ _ _ _ sc _ _ _=>sc
 |_=>{ kind:=.function,names:=[],isGenerator:=false,isCoroutine:=false}
abbrev dP:pH:=λ_ _ _ _ _ _=>False
abbrev E0:XK:=λ_ _ _=>False
theorem dW:eQ dP X E0:=λ_ _ _ _ _ _ _ h=>h.elim
structure dN(K:J5)(x qual:K1)(st:Stmt)(f:Addr)(fd:Kh):Prop where
 ex:∃(oc:Value) (od:Option Addr) (kV doc pm:Value) (an:Option Addr) (cdv ct:Value) (osl:Array (Option Value)),
  fd=Mg x qual (dh st) (cY st) (aq st) .none kV doc pm an cdv ct/\K.lookup f=some ⟨oc,od,.func fd,osl⟩/\OD K cdv qual=true
 kp:Mr K (.ref f)=true
section
variable {P:KZ}{w:Lk}{K:J5}{mg:K1->Option Value}{base:Kp}
theorem dN.ok{x qual:K1}{st:Stmt}{f:Addr}{fd:Kh}{N ps:List K1}{k:Nat}{sp:Sp}(F:dN K x qual st f fd)(S:aL N ps (aq st))(len:∀vs H Q E,sp vs H Q E->vs.length=ps.length)
  (hbody:∀(cdv:Value) (A:K3) (outer:List SK) (s:Ka) (H:Hp) (vs:List V) (Q:VK) (E:XK),cR k (A.deeper (QN qual (aq st) s.heap.objs.size f cdv))->sp vs H Q E→
   ∃t,qT (bI dP P w K mg base N qual (aq st) f cdv A outer s H E).nox (cY st) t/\t { nx:=λ_ H'=>Q .non H',rt:=Q} (i4 N vs) H):bu P w K mg base dP (k+1) f fd ps sp:=by
 obtain⟨oc,od,kV,doc,pm,an,cdv,ct,osl,rfl,lk,hcd⟩:=F.ex;refine E1 lk hcd S len λA outer s H vs Q E hr hsp=>?_
 obtain⟨t,h,q⟩:=hbody cdv A outer s H vs Q E hr hsp;exact⟨t,h.nox,q⟩
theorem dN.binds{x qual:K1}{st:Stmt}{f:Addr}{fd:Kh}{ps:List K1}(F:dN K x qual st f fd)
  (h:∀(kV doc pm:Value) (an:Option Addr) (cdv ct:Value) (us:List Value),us.length=ps.length->RG (Mg x qual (dh st) (cY st) (aq st) .none kV doc pm an cdv ct) ⟨us,[]⟩=Mz (ps.zip us)):aS K fd ps []:=by
 obtain⟨oc,od,kV,doc,pm,an,cdv,ct,osl,rfl,lk,hcd⟩:=F.ex;exact .all (h kV doc pm an cdv ct)
theorem xA{x qual:K1}{st:Stmt}{f:Addr}{oc:Value}{od an:Option Addr}{osl:Array (Option Value)}{kV doc pm cdv ct:Value}(l:K.lookup f=some ⟨oc,od,.func (Mg x qual (dh st) (cY st) (aq st) .none kV doc pm an cdv ct),osl⟩)
  (c:OD K cdv qual=true) (k:Mr K (.ref f)=true):dN K x qual st f (Mg x qual (dh st) (cY st) (aq st) .none kV doc pm an cdv ct):=⟨⟨oc,od,kV,doc,pm,an,cdv,ct,osl,Z,l,c⟩,k⟩
end
theorem iu(hr:cR k A):A.units+1<cLine:=K9 (Nat.add_le_add_left (by decide:1≤64) _) hr.units
theorem bf(h:n≤1000):n<sizeLine:=K9 h (by decide)
section
variable {X:Cx}
theorem pv(i:Nat){x:K1}{pos:NW}(hN:X.N[i]?=some x:=by rfl)(hv:Fd X.env.scope x:=by first|exact KW Z|exact KR (KW Z)|exact KR (KR Z))(hd:(x==("__debug__" : K1))=false:=by decide)
  (hcd:(x==("__classdict__" : K1))=false:=by decide):PE X (.Name x pos) (A3 i):=B5 hN hv hd hcd
end
theorem cO{A B:Prop}(h:B):if false=true then A else B:=by
 rw[if_neg Kj];exact h
theorem hZ{A B:Prop}(h:A):if true=true then A else B:=by
 rw[if_pos Z];exact h
theorem CV{c A B:Prop}[Decidable c](h1:c->A)(h2:¬c->B):if c then A else B:=by
 by_cases h:c
 ·rw[if_pos h];exact h1 h
 ·rw[if_neg h];exact h2 h
theorem jb{c A B:Prop}[Decidable c](hc:c)(h:B):if(!decide c)=true then A else B:=by
 rw[decide_eq_true hc];exact cO h
def aC(H H':Hp):Prop:=∀b o,H b=some o->H' b=some o
theorem aC.refl(H:Hp):aC H H:=λ_ _ h=>h
theorem aC.trans(a:aC H H1)(b:aC H1 H2):aC H H2:=λc o h=>b c o (a c o h)
theorem aC.seq{K:J5}{H H':Hp}{a:Addr}{xs:List V}(e:aC H H')(h:aO K H a xs):aO K H' a xs:=by
 rcases h with(h | ⟨o,h⟩)|h
 ·exact .inl (.inl (e _ _ h))
 ·exact .inl (.inr ⟨o,e _ _ h⟩)
 ·exact .inr h
end L2
set_option maxHeartbeats 4000000
namespace B
open PySem L2 PyProof.Rows
theorem ER{c A B:Prop}[Decidable c](hc:¬c)(h:A):if(!decide c)=true then A else B:=by
 have e:(!decide c)=true:=by rw[decide_eq_false hc];rfl
 rw[if_pos e];exact h
theorem cJ{c A B:Prop}[Decidable c](hc:c)(h:A):if decide c=true then A else B:=by
 rw[if_pos (decide_eq_true hc)];exact h
theorem cA{c A B:Prop}[Decidable c](hc:¬c)(h:B):if decide c=true then A else B:=by
 have e:¬decide c=true:=by rw[decide_eq_false hc];intro z;cases z
 rw[if_neg e];exact h
theorem xi{b:Bool}{A B:Prop}(hb:b=true)(h:A):if b=true then A else B:=by rw[if_pos hb];exact h
theorem rQ{b:Bool}{A B:Prop}(hb:b=false)(h:B):if b=true then A else B:=by
 rw[if_neg (by rw[hb];intro z;cases z)];exact h
def ja(A B:String):Option Bool:=if(Mp A==Mp B)=true then some true else if PySem.W.kitMeta B=true then(fastBuiltinMro A).map (·.contains (.type B)) else none
theorem qx{K:J5}{A B:String}{b:Bool}(h:ja A B=some b):NZ K (.type A) (.type B)=some b:=h
inductive Ty(H:Hp):V->String->Prop where
 |non:Ty H .non "NoneType"
 |bl (b:Bool):Ty H (.bl b) "bool"
 |int (i:Int):Ty H (.int i) "int"
 |str (x:K1):Ty H (.str x) "str"
 |lst {a:Addr} {xs:List V} (e:H a=some (.lst xs)):Ty H (.ref a) "list"
 |tup {a:Addr} {xs:List V} (e:H a=some (.tup xs)):Ty H (.ref a) "tuple"
theorem Ty.of(K:J5)(h:Ty H v n):iX K H v (.type n):=by
 cases h with
 |non=>exact .non
 |bl b=>exact .bl b
 |int i=>exact .int i
 |str x=>exact .str x
 |lst e=>exact .lst e
 |tup e=>exact .tup e
def Gh:List V->Hp->VK->Prop:=λxs H Q=>∃x n m b,xs=[x,.ty n]/\Ty H x m/\ja m n=some b/\Q (.bl b) H
theorem iF:cM X (.builtin "isinstance") Gh:=by
 intro pins s σ H xs us Q I r h;obtain⟨x,n,m,b,rfl,ty,e,q⟩:=h;obtain⟨u,u2,rfl,rx,ry⟩:=qX r;obtain rfl:u2=Mp n:=ry;exact tT I rx (ty.of X.K) (qx e) λtk=>⟨.bl b,H,I.tok tk,Z,q⟩
def FV:V->Bool
 | .int _=>true
 |_=>false
def Iy(n:String):Bool:=n == "tuple"
structure Am(t:Addr)(H H':Hp):Prop where
 keep:∀b o,b≠t->H b=some o->H' b=some o
 tp:∃xs,H t=some (.lst xs)
 tp':∃xs,H' t=some (.lst xs)
theorem Am.up(h:H t=some (.lst xs)):Am t H (av H t (.lst ys)):=⟨λc o n e=>by rw[ak n];exact e,⟨_,h⟩,⟨_,zqd⟩⟩
theorem ai(h:H p=none)(o:HO):aC H (av H p o):=λb u q=>by rw[ak (aB q h)];exact q
def Th(H:Hp)(v:V):Prop:=∃n,Ty H v n/\∀a xs,v=.ref a->H a=some (.tup xs)->∀x∈xs,∃m,Ty H x m
theorem Gp{xs:List V}(h0:0≤r)(h1:r<(xs.length:Int)):∃v,pD xs r=some v/\v∈xs:=by
 have hk:r.toNat<xs.length:=by omega
 have ek:r=((r.toNat:Nat):Int):=by omega
 have q:pD xs ((r.toNat:Nat):Int)=some xs[r.toNat]:=aP (J6 hk);rw[←ek] at q;exact⟨_,q,K6 hk⟩
theorem AL{ns:List Int}(h0:0≤r)(h1:r<(ns.length:Int)):∃z:Int,pD (ns.map V.int) r=some (.int z):=by
 obtain⟨v,h,hv⟩:=Gp (xs:=ns.map V.int) h0 (by rw[J7];exact h1);obtain⟨z,_,rfl⟩:=Kc.mp hv;exact⟨z,h⟩
structure Dk(H:Hp)(t s:Addr):Prop where
 ex:∃(ns:List Int) (p q r:Int),H t=some (.lst [.ref s,.int p,.int q,.int r])/\H s=some (.lst (ns.map V.int))/\s≠t/\ns.length≤63/\0≤p/\0≤q/\0≤r
def Fx(K:J5):Sp:=λvs H Q _=>∃(a:Addr) (ns:List Int),vs=[.ref a]/\aO K H a (ns.map V.int)/\∀(t s:Addr) (H':Hp),aC H H'->H t=none->H s=none->Dk H' t s->Q (.ref t) H'
def FB:Sp:=λvs H Q _=>∃(t s:Addr) (m:Int),vs=[.ref t,.int m]/\Dk H t s/\0<m/\m<1073741824/\∀(r:Int) (xs:List V),0≤r->r<m->Dk (av H t (.lst xs)) t s->Q (.int r) (av H t (.lst xs))
def FA(K:J5):Sp:=λvs H Q _=>∃(a:Addr) (ns:List Int),vs=[.ref a]/\aO K H a (ns.map V.int)/\ns.length≤63/\∀H',Q (.bl true) H'
theorem oR(ha:0≤a)(hb:0<b):KA b (a%b)=KA a b:=by
 obtain⟨n,rfl⟩:=Lq ha;obtain⟨m,rfl⟩:=Lq (Lw hb);rw[←Int.natCast_emod];show Nat.gcd m (n%m)=Nat.gcd n m;rw[Nat.gcd_comm m,←Nat.gcd_rec,Nat.gcd_comm]
theorem qN(i:Int):(if i<0 then -i else i)=(i.natAbs:Int):=by split<;>omega
end B
namespace B
open PySem PySem.Spec L2 PyProof.Rows
mutual
inductive bS(K:J5)(H:Hp):V->Kv->Prop where
 |non:bS K H .non .none
 |bl (b:Bool):bS K H (.bl b) (.bool b)
 |int (i:Int):bS K H (.int i) (.int i)
 |str (x:K1):bS K H (.str x) (.str x)
 |lst {a:Addr} {xs:List V} {ds:List Kv} (e:aO K H a xs) (h:be K H xs ds):bS K H (.ref a) (.list ds)
 |tup {a:Addr} {xs:List V} {ds:List Kv} (e:bH K H a xs) (h:be K H xs ds):bS K H (.ref a) (.tuple ds)
inductive be(K:J5)(H:Hp):List V->List Kv->Prop where
 |nil:be K H [] []
 |cons {x:V} {d:Kv} {xs:List V} {ds:List Kv} (h:bS K H x d) (t:be K H xs ds):be K H (x::xs) (d::ds)
end
mutual
theorem bS.reads{X:Cx}{pins:List (Addr×LY)}{σ:L2.St}{H:Hp}{s:Ka}(I:Inv X pins σ H s):∀{v:V} {d:Kv} {u:Value},bS X.K H v d->aY v u->∃as,Reads s.heap u d as
 |_,_,u,.non,r=>by cases(show u=NX from r);exact⟨_,.none⟩
 |_,_,u,.bl b,r=>by cases(show u=Om b from r);exact⟨_,.bool b⟩
 |_,_,u,.int i,r=>by obtain⟨t,q⟩:=(show ∃t,u=Mf i t from r);cases q;exact⟨_,.int i t⟩
 |_,_,u,.str x,r=>by obtain⟨t,q⟩:=(show ∃t,u=P0 x t from r);cases q;exact⟨_,.str x t⟩
 |_,_,u,.lst (a:=a) e h,r=>by
  cases(show u=K7 a from r)
  obtain⟨its,rv,⟨o,n,ho,hc,_,hd⟩,_⟩:=I.list e;obtain⟨as,q⟩:=be.reads I h rv;exact⟨_,.list ho hc hd (by simpa using q)⟩
 |_,_,u,.tup (a:=a) e h,r=>by
  cases(show u=K7 a from r)
  obtain⟨its,rv,⟨o,ho,hc,n,hd⟩,_⟩:=I.tuple e;obtain⟨as,q⟩:=be.reads I h rv;exact⟨_,.tuple ho hc hd (by simpa using q)⟩
theorem be.reads{X:Cx}{pins:List (Addr×LY)}{σ:L2.St}{H:Hp}{s:Ka}(I:Inv X pins σ H s):∀{vs:List V} {ds:List Kv} {us:List Value},be X.K H vs ds->aZ vs us->∃as,ReadsAll s.heap us ds as
 |_,_,_,.nil,.nil=>⟨_,.nil⟩
 |_,_,_,.cons h t,.cons r q=>
  let ⟨_,a⟩:=bS.reads I h r;let ⟨_,b⟩:=be.reads I t q
  ⟨_,.cons a b⟩
end
structure Ff(d:Kv):Prop where
 sh:d.showable=true
 nd:d.hasDict=false
 sz:d.shown.length≤sizeLine
 dp:d.depth≤16
def Hd(K:J5):List V->Hp->VK->Prop:=λxs H Q=>∃v d,xs=[v]/\bS K H v d/\Ff d/\Q (.str d.shown) H
end B
namespace B
open PySem PySem.Spec L2 PyProof.Rows
def jF(X:Cx)(N':List K1)(scope:Oa)(cl:List (K1×Addr))(C:Addr)(fp:List Addr)(pins:List (Addr×LY))(s:Ka)(H:Hp):Cx:=
 { X with N:=N',s₀:=s,H₀:=H,env:=OV scope cl C X.env,outer:=X.stack,stack:=X.stack,ex:=fp,fn:=λ_=>false,pn:=X.pn++pins,xe:=λ_ _=>False}
def cT(X:Cx)(scope:Oa)(cl:List (K1×Addr)):List K1->List (Option Nat)->Prop
 | [],[]=>True
 |_::N,none::r=>cT X scope cl N r
 |x::N,some j::r=>X.N[j]?=some x/\X.env.kindOf x=some .cell/\(OV scope cl 0 X.env).kindOf x=some .cell/\cl.lookup x=X.env.cells.lookup x/\cT X scope cl N r
 |_,_=>False
def cr(src:List (Option Nat))(σ:L2.St):L2.St:=src.map λo=>o.bind λj=>(σ[j]?).getD none
theorem cT.len{X:Cx}{scope:Oa}{cl:List (K1×Addr)}:∀{N:List K1} {src:List (Option Nat)},cT X scope cl N src->N.length=src.length
 | [],[],_=>rfl
 |_::_,none::_,h=>congrArg (·+1) (cT.len (X:=X) (scope:=scope) (cl:=cl) h)
 |_::_,some _::_,h=>congrArg (·+1) (cT.len (X:=X) (scope:=scope) (cl:=cl) h.2.2.2.2)
theorem cT.at{X:Cx}{scope:Oa}{cl:List (K1×Addr)}{σ:L2.St}:∀{N:List K1} {src:List (Option Nat)} {i:Nat} {x:K1} {v:V},cT X scope cl N src->N[i]?=some x->(cr src σ)[i]?=some (some v)→
  ∃j:Nat,X.N[j]?=some x/\σ[j]?=some (some v)/\X.env.kindOf x=some .cell/\(OV scope cl 0 X.env).kindOf x=some .cell/\cl.lookup x=X.env.cells.lookup x
 |y::N,none::r,0,x,v,h,e,q=>by cases q
 |y::N,none::r,i+1,x,v,h,e,q=>cT.at (N:=N) (src:=r) (i:=i) h e q
 |y::N,some j::r,0,x,v,h,e,q=>by
  cases e
  refine⟨j,h.1,?_,h.2.1,h.2.2.1,h.2.2.2.1⟩;have q':some ((σ[j]?).getD none)=some (some v):=q;injection q' with q'
  cases z:σ[j]? with
  |none=>rw[z] at q';cases q'
  |some o=>rw[z] at q';exact congrArg some q'
 |y::N,some j::r,i+1,x,v,h,e,q=>cT.at (N:=N) (src:=r) (i:=i) h.2.2.2.2 e q
def ff(X:Cx)(scope:Oa)(cl:List (K1×Addr)):Prop:=
 (∀x,((OV scope cl 0 X.env).kindOf x=some .cell∨(OV scope cl 0 X.env).kindOf x=some .free)->∃c,cl.lookup x=some c)/\∀x c,cl.lookup x=some c->X.env.cells.lookup x=some c
def iL(X:Cx):List (K1×Addr)->Prop
 | []=>True
 |y::r=>X.env.cells.lookup y.1=some y.2/\iL X r
theorem iL.mem{X:Cx}:∀{cl:List (K1×Addr)},iL X cl->∀y∈cl,X.env.cells.lookup y.1=some y.2
 | [],_,y,h=>by cases h
 |z::r,k,y,h=>by
  rcases Kn.mp h with e|h
  ·rw[e];exact k.1
  ·exact iL.mem k.2 y h
theorem mem_of_lookup{α:Type}{x:K1}{v:α}:∀{l:List (K1×α)},l.lookup x=some v->(x,v)∈l
 | [],h=>by cases h
 | (y,w)::r,h=>by
  rw[List.lookup_cons] at h
  cases e:x==y with
  |true=>
   rw[e] at h;have e':x=y:=Sm e
   cases h
   rw[e'];exact Kf
  |false=>
   rw[e] at h;exact Km _ (mem_of_lookup h)
theorem aW(h1:((relabel scope X.env).names.all λy=>!(y.2==.cell||y.2==.free)||(cl.lookup y.1).isSome)=true)(h2:iL X cl):ff X scope cl:=by
 refine⟨λx h=>?_,λx c e=>h2.mem _ (mem_of_lookup e)⟩;have h3:=Mm.mp h1;have key:∀k:P4,(k=.cell∨k=.free)->(relabel scope X.env).names.lookup x=some k->∃c,cl.lookup x=some c:=λk hk e=>by
  have q:=h3 _ (mem_of_lookup e);have z:(k==P4.cell||k==P4.free)=true:=by rcases hk with rfl|rfl<;>rfl
  simp only[z,M9,Rg] at q;exact PR.mp q
 rcases h with h|h
 ·exact key _ (.inl Z) h
 ·exact key _ (.inr Z) h
def eU(σ σ':L2.St):Prop:=σ'.length=σ.length/\∀(i:Nat) (v:V),σ[i]?=some (some v)->σ'[i]?=some (some v)
theorem eU.set(h:σ[i]?=some none):eU σ (σ.set i (some v)):=by
 refine⟨Mw,λj u e=>?_⟩;have ne:i≠j:=λz=>by subst z;rw[h] at e;cases e
 rw[LO ne];exact e
theorem eU.set'(e:eU σ τ)(h:σ[i]?=some none):eU σ (τ.set i (some v)):=by
 refine⟨by rw[Mw];exact e.1,λj u q=>?_⟩;have ne:i≠j:=λz=>by subst z;rw[h] at q;cases q
 rw[LO ne];exact e.2 j u q
section
variable {X:Cx}{N':List K1}{scope:Oa}{cl:List (K1×Addr)}{src:List (Option Nat)}{pins:List (Addr×LY)}{σ:L2.St}{H:Hp}{s:Ka}{fp:List Addr}
theorem Cx.comp_ok{C:Addr}(I:Inv X pins σ H s)(hC:s.heap.objs.size≤C)(hk:scope.kind=.function)(hf:∀b∈fp,i3 X pins H b)(hfs:∀b∈fp,b<s.heap.objs.size)(hc:ff X scope cl) :
  (jF X N' scope cl C fp pins s H).Ok where
 mod:=I.ok.mod
 kind:=hk
 glob:=I.ok.glob
 blt:=I.ok.blt
 above:=hC
 inj:=λx y c e1 e2=>I.ok.inj x y c (hc.2 x c e1) (hc.2 y c e2)
 has:=λx h=>hc.1 x h
 cab:=λx c z=>nomatch z
 hd:=I.ok.hd
 frames:=I.ok.frames
 stk:=.inl Z
 exf:=λb hb=>⟨λz=>by have:=hfs b hb;rw[show b=C from z] at this;exact absurd (Ky this hC) (MG _),λx c e=>(hf b hb).2.2.2.2.1 x c (hc.2 x c e)⟩
 bs:=I.bs
 bsz:=K5 I.ok.bsz I.sz
 noex:=λb o e hb=>by
  rcases(hf b hb).2.2.2.1 with z|z
  ·exact I.ok.noex b o e z
  ·rw[(I.ok.bs b o e).1] at z;cases z
 exfs:=λb hb z=>by
  rcases Kn.mp (I.stkSub b z) with q|q
  ·exact(hf b hb).2.1 q
  ·exact(hf b hb).2.2.1 q
 funs:=I.stack
 frf:=I.stkFree
theorem Inv.comp{C:Addr}{h₁:Kp}{m:K1->Option Value}{tk:Nat}(I:Inv X pins σ H s)(hC:C=s.heap.objs.size)(hns:h₁.Ns C m)(keep:∀b o,s.heap.get? b=some o->h₁.get? b=some o)
  (hk:scope.kind=.function) (hf:∀b∈fp,i3 X pins H b) (hfs:∀b∈fp,b<s.heap.objs.size) (hc:ff X scope cl) (hfree:cT X scope cl N' src) :
  Inv (jF X N' scope cl C fp pins s H) [] (cr src σ) H { s with heap:=h₁,toks:=tk} where
 ok:=Cx.comp_ok I (Qm hC.symm) hk hf hfs hc
 os:=Z
 bare:=I.bare
 base:=Un.kept keep
 loc:=⟨m,hns,λi x v e1 e2 _=>by
  obtain⟨j,hj,hσ,kc,kc',hl⟩:=hfree.at e1 e2;obtain⟨m0,hn0,hl0⟩:=I.loc;obtain⟨u,r,l⟩:=hl0 j x v hj hσ (KR (KW kc));rcases l with⟨k,_⟩ | ⟨k,c,e,o,ho,hd⟩
  ·rw[kc] at k;cases k
  ·exact⟨u,r,.inr ⟨.inl kc',c,hl.trans e,o,keep c o ho,hd⟩⟩⟩
 cell:=λx c e=>let ⟨v,o,ho,hd⟩:=I.cell x c (hc.2 x c e);⟨v,o,keep _ _ ho,hd⟩
 free:=I.hok.fresh (Qm hC.symm)
 freeC:=λx c e=>I.freeC x c (hc.2 x c e)
 pin:=λp hp=>by
  have hp':p∈X.pn++pins:=by
   have z:p∈(X.pn++pins)++[]:=hp;rw[LF] at z;exact z
  obtain⟨e,n,ne,nf,d⟩:=I.pin p hp';refine⟨keep _ _ e,n,λz=>?_,λz=>?_,d⟩
  ·have:=Kx e;rw[show p.1=C from z,hC] at this;exact MG _ this
  ·rcases Kn.mp (I.stkSub _ z) with q|q
   ·exact ne q
   ·exact nf q
 hok:=I.hok.kept keep
 len:=by show(cr src σ).length=N'.length;unfold cr;rw[J7,hfree.len]
end
def DE(X:Cx)(ifs:List Le)(t:TT):Prop:=
 ∀(pins:List (Addr×LY)) (s:Ka) (σ:L2.St) (H:Hp) (Q:Bool->Hp->Prop),Inv X pins σ H s->t σ H Q→
  Kz (KF X.prog X.w) X.A (forIn ifs true λc r=>if r=true then do let ok ←isTrue c X.env (eval c X.env);Mz (OZ ok) else Mz (OZ r)) (TP X pins σ Q) X.xe s
def DS:TT:=λ_ H Q=>Q true H
theorem yX:DE X [] DS:=λ_ _ _ H _ I h=>wpAny_tests_nil ⟨H,I,h⟩
theorem yW(h:PT X c t):DE X [c] t:=λpins s σ H Q I q=>wpAny_tests_one (h pins s σ H Q I q)
section
variable {prog:KZ}{w:Lk}{A:K3}{R:SQ->Ka->Prop}{s:Ka}
theorem ua(I:Nat->Ka->Prop)
  (turn:∀n s,I n s->Kz (KF prog w) A (OI it) (λr s₁=>match r with
   |none=>R (.ok .next) s₁
   |some v=>Kz (KF prog w) A (OY target it v) (λ_ s₁'=>Kz (KF prog w) A (PM target env v) (λ_ s₂=>
     Kz (KF prog w) A (forIn ifs true λc r=>if r=true then do let ok ←isTrue c env (eval c env);Mz (OZ ok) else Mz (OZ r)) (λok s₃=>
      if ok=true then Kz (KF prog w) A (eval elt env) (λx s₄=>
       Kz (KF prog w) A (call (.builtin "list.append") [acc,x]) (λ_ s₅=>∃m,m<n/\I m s₅) (λ_ _=>False) s₄) (λ_ _=>False) s₃
      else ∃m,m<n/\I m s₃) (λ_ _=>False) s₂) (λ_ _=>False) s₁') (λ_ _=>False) s₁) (λ_ _=>False) s)
  (n:Nat) (h:I n s):OB (KF prog w) A (.compLoop (.ListComp elt [⟨target,iter,ifs,0⟩] scope pos) 0 it acc env) R s:=by
 refine codeAny_loop Z I (λn s hI=>?_) n h;show Kz _ A ((compTurn (.ListComp elt [⟨target,iter,ifs,0⟩] scope pos) 0 it acc env).onRaise (λx=>do noteFrame x env;theTreesLotGoes x)) _ _ s;refine wpAny_noted ?_;rw[compTurn_list];refine J8 (PN (J8 (MX (turn n s hI) (λr s₁ h₁=>?_) λ_ _ h'=>h'.elim)))
 cases r with
 |none=>exact wpAny_pure h₁
 |some v=>
  refine J8 (MX h₁ (λ_ s₁' h₁'=>?_) λ_ _ h'=>h'.elim);refine J8 (MX h₁' (λ_ s₂ h₂=>J8 (MX h₂ (λok s₃ h₃=>?_) λ_ _ h'=>h'.elim)) λ_ _ h'=>h'.elim)
  cases ok with
  |false=>exact wpAny_pure ⟨Z,h₃⟩
  |true=>
   exact J8 (J8 (MX h₃ (λx s₄ h₄=>J8 (MX h₄ (λ_ s₅ h₅=>wpAny_pure (wpAny_pure ⟨Z,h₅⟩)) λ_ _ h'=>h'.elim)) λ_ _ h'=>h'.elim))
end
structure Ap(X:Cx)(pins:List (Addr×LY))(H:Hp)(C:Addr):Prop where
 no:H C=none
 lo:C≠X.env.locals
 fs:C∉X.fs
 old:X.s₀.heap.get? C=none
 ce:∀x c,X.env.cells.lookup x=some c->c≠C
 pn:∀p∈X.pn++pins,p.1≠C
theorem Ap.turned{X:Cx}{pins:List (Addr×LY)}{σ:L2.St}{H:Hp}{C:Addr}{s:Ka}(o:Ap X pins H C)(I:Inv X pins σ H s){h':Kp}(sb:LH C s.heap h'):Inv X pins σ H { s with heap:=h'}:=
 I.turned (it:=C) (t':=s.toks) (λb u hb e=>sb.extBut b u hb e) o.no o.lo (.inr o.old) o.ce o.pn
def nU(wi:TI)(src:List (Option Nat))(g:TG)(tt:TT)(te:TE):TE:=λσ H Q=>wi σ H λJ H1=>∀D,H1 D=none->∃W:Nat->Nat->List V->Hp->Prop,
 (∃m,W 0 m [] (av H1 D (.lst [])))/\∀i m ys H,W i m ys H->(J.stop i H/\Q (.ref D) H)∨(J.go i H/\∀x H',J.yld i H x H'->g x (cr src σ) H' λσ2 H2=>eU (cr src σ) σ2/\tt σ2 H2 λok H3=>
  if ok=true then te σ2 H3 λy H4=>H4 D=some (.lst ys)/\ys.length<sizeLine/\∃m',m'<m/\W (i+1) m' (ys++[y]) (av H4 D (.lst (ys++[y]))) else ∃m',m'<m/\W (i+1) m' ys H3)
section
variable {X:Cx}{N':List K1}{scope:Oa}{cl:List (K1×Addr)}{src:List (Option Nat)}{tg iter elt:Le}{ifs:List Le}{wi:TI}{g:TG}{tt:TT}{te:TE}{pos:NW}
theorem o4(hc:X.calm=true)(hi:PI X tg iter wi)(hg:∀C fp pins s H,PG (jF X N' scope cl C fp pins s H) tg g)(ht:∀C fp pins s H,DE (jF X N' scope cl C fp pins s H) ifs tt)
  (he:∀C fp pins s H,PE (jF X N' scope cl C fp pins s H) elt te) (hfree:cT X scope cl N' src) (hcell:∀x∈scope.names,x.2≠.cell) (hkind:scope.kind=.function) (hcl:ff X scope cl)
  {RR:Value->Addr->SQ->Ka->Prop} {pins:List (Addr×LY)} {s:Ka} {σ:L2.St} {H:Hp} {Q:VK} (I:Inv X pins σ H s) (h:nU wi src g tt te σ H Q)
  (hRR:∀D C H' s',Q (.ref D) H'->(∃m,s'.heap.Ns C m)->Inv X pins σ H' s'->Ap X pins H' C->RR (.ref D) C (.ok .next) s') :
  Kz (KF X.prog X.w) X.A (eval iter X.env) (λx s₁=>Kz (KF X.prog X.w) X.A (Sg x) (λitv s₂=>Kz (KF X.prog X.w) X.A (newList []) (λacc s₃=>
   Kz (KF X.prog X.w) X.A (newFunctionEnv scope X.env.globals cl [] X.env.qual none .none (some X.env)) (λcenv s₄=>
    OB (KF X.prog X.w) X.A (.compStart (.ListComp elt [⟨tg,iter,ifs,0⟩] scope pos) 0 itv acc { cenv with scope:=relabel scope X.env}) (RR acc cenv.locals) s₄) X.xe s₃) X.xe s₂) X.xe s₁) X.xe s:=by
 refine bJ (hi pins s σ H _ I h) λv s1 h1=>bJ h1 λitv s2 h2=>?_
 obtain⟨it,fp,tn,J,H2,e,I2,T,st2,f2,h2⟩:=h2;subst e;refine LA ?_ (by show 0≤sizeLine;exact KJ _);have hD:H2 s2.heap.objs.size=none:=I2.fresh;have I3:Inv X pins σ (av H2 s2.heap.objs.size (.lst [])) { s2 with heap:=s2.heap.push { cls:=.type "list",data:=.seq ([]:List Value).toArray} }:=I2.lnew (t':=s2.toks) (its:=[]) .nil (KJ _);obtain⟨W,⟨m0,w0⟩,turn⟩:=h2 s2.heap.objs.size hD;generalize hDe:s2.heap.objs.size=D at I3 turn w0 hD ⊢;have st3:tn 0 (s2.heap.push { cls:=.type "list",data:=.seq ([]:List Value).toArray}):=T.keep _ _ _ st2 λb _ o e=>Kd _ e
 have f3:∀b∈fp,i3 X pins (av H2 D (.lst [])) b/\b<(s2.heap.push { cls:=.type "list",data:=.seq ([]:List Value).toArray}).objs.size:=λb hb=>by
  obtain⟨o,e,_⟩:=T.obj _ _ st2 b hb;have l:=Kx e;rw[hDe] at l;refine⟨⟨?_,(f2 b hb).2⟩,by rw[MP,hDe];exact LI l⟩;rw[ak (KM l)];exact(f2 b hb).1
 generalize (s2.heap.push { cls:=.type "list",data:=.seq ([]:List Value).toArray})=h3 at I3 st3 f3 ⊢;refine wpAny_newFunctionEnv hcell (by intro y hy;simp at hy) (λh₄ hns₄ hsb₄=>?_) hkind;have keep:∀b o,h3.get? b=some o->h₄.get? b=some o:=λb o e=>hsb₄.extBut b o (KM (Kx e)) (Kd _ e)
 have I4:=Inv.comp (C:=h3.objs.size) (fp:=fp) (tk:=s2.toks+([]:List (K1×Value)).length) I3 Z hns₄ keep hkind (λb hb=>(f3 b hb).1) (λb hb=>(f3 b hb).2) hcl hfree;have st4:tn 0 h₄:=T.keep _ _ _ st3 λb _ o e=>keep b o e
 have fpn:∀b∈fp,(av H2 D (.lst [])) b=none:=λb hb=>(f3 b hb).1.1
 have hn3:∀b∈fp,b≠h3.objs.size:=λb hb=>KM (f3 b hb).2
 have stat:∀{H':Hp},(∀b∈fp,H' b=none)->∀b∈fp,i3 (jF X N' scope cl h3.objs.size fp pins { s2 with heap:=h3} (av H2 D (.lst []))) [] H' b:=λhn b hb=>
  ⟨hn b hb,hn3 b hb,I4.ok.exfs b hb,.inl hb,λx c e=>(f3 b hb).1.2.2.2.2.1 x c (hcl.2 x c e),λp hp=>(f3 b hb).1.2.2.2.2.2 p (by
   have z:p∈(X.pn++pins)++[]:=hp;rw[LF] at z;exact z)⟩
 have back:∀{H':Hp} {s':Ka},Inv (jF X N' scope cl h3.objs.size fp pins { s2 with heap:=h3} (av H2 D (.lst []))) [] (cr src σ) H' s'->(∃m,s'.heap.Ns h3.objs.size m)/\Inv X pins σ H' s'/\Ap X pins H' h3.objs.size:=λ{H' s'} I'=>by
  have Ib:Inv X pins σ H' s':=I3.call' I'.os I'.base I'.hok I'.bare λb hb=>⟨(f3 b hb).1.2.2.2.1,(f3 b hb).1.2.1,(f3 b hb).1.2.2.2.2.1,(f3 b hb).1.2.2.2.2.2⟩
  refine⟨let ⟨m,hm,_⟩:=I'.loc;⟨m,hm⟩,Ib,⟨I'.free,λz=>?_,I3.nofs (Kb _),OT I3.sz,λx c e z=>?_,λp hp z=>?_⟩⟩
  ·have:=I3.lt;rw[←z] at this;exact MG _ this
  ·obtain⟨v,o,ho,_⟩:=I3.cell x c e;have:=Kx ho;rw[z] at this;exact MG _ this
  ·obtain⟨e,_⟩:=I3.pin p hp;have:=Kx e;rw[z] at this;exact MG _ this
 have loop:OB (KF X.prog X.w) X.A (.compLoop (.ListComp elt [⟨tg,iter,ifs,0⟩] scope pos) 0 (.ref it) (.ref D) (OV scope cl h3.objs.size X.env)) (RR (.ref D) h3.objs.size) { s2 with heap:=h₄,toks:=s2.toks+([]:List (K1×Value)).length}:=by
  refine ua (λn s'=>∃i ys H',Inv (jF X N' scope cl h3.objs.size fp pins { s2 with heap:=h3} (av H2 D (.lst []))) [] (cr src σ) H' s'/\tn i s'.heap/\(∀b∈fp,H' b=none)/\W i n ys H') ?_ m0 ⟨0,[],_,I4,st4,fpn,w0⟩;rintro n s5 ⟨i,ys,H5,I5,st5,fr5,w5⟩;rcases turn i n ys H5 w5 with⟨stop,qn⟩ | ⟨go,step⟩
  ·refine bJ (T.done (jF X N' scope cl h3.objs.size fp pins { s2 with heap:=h3} (av H2 D (.lst []))) rfl rfl rfl hc i [] s5 _ H5 _ I5 (stat fr5) st5 stop) λr s6 ⟨hr,I6⟩=>?_
   subst hr;obtain⟨b1,b2,b3⟩:=back I6;exact hRR D _ H5 s6 qn b1 b2 b3
  ·refine bJ (T.item (jF X N' scope cl h3.objs.size fp pins { s2 with heap:=h3} (av H2 D (.lst []))) rfl rfl rfl hc i [] s5 _ H5 _ I5 (stat fr5) st5 go) λr s6 ⟨u,hr,h6⟩=>?_
   subst hr;refine bJ h6 λ_ s7 ⟨x,H7,I7,r7,y7,st7,fr7⟩=>?_
   have I7':=I7.pinned (stat fr7) (T.obj _ _ st7);refine bJ (hg _ _ _ _ _ _ s7 _ H7 x u _ I7' r7 (step x H7 y7)) λ_ s8 ⟨σ8,H8,I8,ex8,q8⟩=>?_
   refine bJ (ht _ _ _ _ _ _ s8 σ8 H8 _ I8 q8) λok s9 ⟨H9,I9,q9⟩=>?_
   have again:∀{ys':List V} {Ha:Hp} {sa:Ka},Inv (jF X N' scope cl h3.objs.size fp pins { s2 with heap:=h3} (av H2 D (.lst []))) ([]++j7 fp s7.heap) σ8 Ha sa->(∃m',m'<n/\W (i+1) m' ys' Ha)→
     ∃m,m<n/\∃i ys H',Inv (jF X N' scope cl h3.objs.size fp pins { s2 with heap:=h3} (av H2 D (.lst []))) [] (cr src σ) H' sa/\tn i sa.heap/\(∀b∈fp,H' b=none)/\W i m ys H':=λ{ys' Ha sa} Ia ⟨m',hm,wa⟩=>by
    refine⟨m',hm,i+1,ys',Ha,(Ia.unpinned).weak ex8.1.symm ex8.2,T.keep _ _ _ st7 λb hb o e=>(Ia.pin (b,o) (Kw _ (Kw _ (fR hb e)))).1,λb hb=>?_,wa⟩;obtain⟨o,e,_⟩:=T.obj _ _ st7 b hb;exact(Ia.pin (b,o) (Kw _ (Kw _ (fR hb e)))).2.1
   cases ok with
   |false=>exact again I9 q9
   |true=>
    refine bJ (he _ _ _ _ _ _ s9 σ8 H9 _ I9 q9) λy s10 ⟨yv,H10,I10,r10,q10,hz,wn⟩=>?_
    refine bJ (cF _ s10 σ8 H10 (.ref D) [yv] (.ref D) [y] (λ_ Hz=>∃m',m'<n/\W (i+1) m' (ys++[yv]) Hz) I10 Z (.cons r10 .nil) ⟨D,ys,yv,Z,Z,q10,hz,wn⟩) λ_ s11 ⟨_,H11,I11,_,q11⟩=>?_
    exact again I11 q11
 exact codeAny_compStart_list loop (T.self _ 0 _ _ _ st4 loop)
theorem wz(hc:X.calm=true)(hi:PI X tg iter wi)(hg:∀C fp pins s H,PG (jF X N' scope cl C fp pins s H) tg g)(ht:∀C fp pins s H,DE (jF X N' scope cl C fp pins s H) ifs tt)
  (he:∀C fp pins s H,PE (jF X N' scope cl C fp pins s H) elt te) (hfree:cT X scope cl N' src) (hclos:Rt scope X.env=Mz cl) (hcell:∀x∈scope.names,x.2≠.cell) (hkind:scope.kind=.function)
  (hnames:∀x∈scope.names,x.2=.local->scope.names.lookup x.1=some .local) (hcl:ff X scope cl) (hs:∀x,Nl iter X.env x=Mz x:=by intro _;rfl) :
  PE X (.ListComp elt [⟨tg,iter,ifs,0⟩] scope pos) (nU wi src g tt te):=by
 intro pins s σ H Q I h;rw[eval_ListComp];refine PU (use:=none) Z hs hclos hkind hnames (o4 hc hi hg ht he hfree hcell hkind hcl (RR:=λacc C=>compPost (KF X.prog X.w) X.A X.xe none (EP X pins σ Q) acc C) I h λD C H' s' q hm hI hb=>?_);obtain⟨m,hm⟩:=hm;exact⟨m,hm,λh' sb=>⟨.ref D,H',hb.turned hI sb,Z,q⟩⟩
theorem y9{i:Nat}{x:K1}{pos' pos2:NW}(hN:X.N.Nodup)(hi':X.N[i]?=some x)(hx:yq X.env.scope x)(hc:X.calm=true)(hi:PI X tg iter wi)(hg:∀C fp pins s H,PG (jF X N' scope cl C fp pins s H) tg g)(ht:∀C fp pins s H,DE (jF X N' scope cl C fp pins s H) ifs tt)
  (he:∀C fp pins s H,PE (jF X N' scope cl C fp pins s H) elt te) (hfree:cT X scope cl N' src) (hclos:Rt scope X.env=Mz cl) (hcell:∀x∈scope.names,x.2≠.cell) (hkind:scope.kind=.function)
  (hnames:∀x∈scope.names,x.2=.local->scope.names.lookup x.1=some .local) (hcl:ff X scope cl) (hs:∀x,Nl iter X.env x=Mz x:=by intro _;rfl)
  (hsw:NQ (.ListComp elt [⟨tg,iter,ifs,0⟩] scope pos) (some (.Name x pos')) pos2.line X.env=Mz true:=by rfl) (hf:X.fn x=true∨X.env.scope.names.lookup x=some .local:=by first|exact .inl Z|exact .inr Z|assumption) :
  PS X (.Assign [.Name x pos'] (.ListComp elt [⟨tg,iter,ifs,0⟩] scope pos) pos2) (pT (nU wi src g tt te) (ko i)):=by
 intro pins s σ H D I h;rw[exec_Assign_Name_used _ _ _ _ hsw];refine J8 (PN ?_);show Kz _ _ ((comprehension (.ListComp elt [⟨tg,iter,ifs,0⟩] scope pos) scope X.env _ (newList []) false (eval iter X.env) (some (PM (.Name x pos') X.env)) >>= λ_=>Mz ()) >>= λ_=>Mz Tn) _ _ s;refine J8 (J8 (MX (PU (use:=some (PM (.Name x pos') X.env)) (Q:=λ_ s''=>SP X pins D .next s'') Z hs hclos hkind hnames (o4 hc hi hg ht he hfree hcell hkind hcl (RR:=λacc C=>compPost (KF X.prog X.w) X.A X.xe (some (PM (.Name x pos') X.env)) (λ_ s''=>SP X pins D .next s'') acc C) I h λE C H' s' q hm hI hb=>?_)) (λ_ s'' h''=>wpAny_pure (wpAny_pure h'')) λ_ _ e=>e));obtain⟨m,o,es,ep,ho,hd,r1,r2⟩:=hm;have I':Inv X (pins++[(C,o)]) σ H' s':=hI.pins_of λp hp=>by
  rcases KG.mp hp with h|h
  ·exact hI.pin p (Kw _ h)
  ·rw[Ks] at h;rw[h];exact⟨ho,hb.no,hb.lo,hb.fs,λv z=>by rw[hd] at z;cases z⟩
 refine RB (fA I' hN hi' hx (show aY (.ref E) (.ref E) from Z) (λs'' I''=>?_) hf);have hC:=(I''.pin (C,o) (Kw _ (Kw _ Kf))).1;have I3:Inv X pins (σ.set i (some (.ref E))) H' s'':=I''.pins_of λp hp=>I''.pin p (Kw _ (La _ hp))
 exact⟨m,⟨o,es,ep,hC,hd,r1,r2⟩,λh' sb=>⟨_,H',hb.turned I3 sb,q⟩⟩
end
def Ej(K:J5):R2:=λx y H Q=>∃d d',bS K H x d/\bS K H y d'/\d.canLay0=true/\d'.canLay0=true/\d.depth≤32/\Q (.bl (!PyData.eqv d d')) H
theorem fP(hr:cR k X.A):fJ X (LB .NotEq) (Ej X.K):=by
 intro pins s σ H x y v u Q I rx ry h;obtain⟨d,d',hd,hd',c,c',dp,q⟩:=h;obtain⟨as,ra⟩:=bS.reads I hd rx;obtain⟨bs,rb⟩:=bS.reads I hd' ry;exact SeqAt.compareNe_reads ra rb c c' (by have:=hr.units;omega) ⟨.bl _,H,I,Z,q⟩
noncomputable def Hy (h:Kp) (x:Value) (d:Kv) (y:Value):Bool:=
 open Classical in if y=x then true else if z:∃d',d'.canLay0=true/\d'.depth≤32/\∃as,Reads h y d' as then LD z.choose d else false
def AY(K:J5)(H:Hp)(xs:List V):Prop:=∀x∈xs,∃d,bS K H x d/\d.canLay0=true/\d.depth≤32
def FF(K:J5):R2:=λx y H Q=>∃a p xs,x=.ref a/\y=.ref p/\aO K H p xs/\V.ref a∈xs/\AY K H xs/\Q (.bl false) H
def FJ(K:J5):V->List V->Hp->VK->Prop:=λx vs H Q=>∃p xs a d,x=.ref p/\vs=[.ref a]/\aO K H p xs/\V.ref a∈xs/\AY K H xs/\bS K H (.ref a) d/\d.canLay0=true/\d.depth≤32∧
 ∀(j:Nat) (v':V),xs[j]?=some v'->(v'=.ref a∨∀d',bS K H v' d'->d'.canLay0=true->LD d' d=true)->Q (.int j) H
end B
namespace B
abbrev R:=Int×Int
def dk(a b:Int):R:=(a/(KA a b:Int),b/(KA a b:Int))
structure Wf(n:Nat)(r:R):Prop where
 pos:0<r.2
 top:r.1.natAbs<2^n
 bot:r.2.natAbs<2^n
 cop:KA r.1 r.2=1
theorem Wf.mono(h:Wf n r)(l:n≤m):Wf m r:=⟨h.pos,Ky h.top (Li (by decide) l),Ky h.bot (Li (by decide) l),h.cop⟩
theorem bR(hb:0<b):0<(KA a b:Int):=by
 have h:KA a b≠0:=λz=>by
  have:=(Int.gcd_eq_zero_iff.mp z).2;omega
 omega
theorem fm(a:Int)(hg:0<g):(a/g).natAbs≤a.natAbs:=by
 have h1:=Int.ediv_mul_le a (show g≠0 by omega);have h2:=Int.lt_ediv_add_one_mul_self a hg;rcases RN 0 a with h|h
 ·have h3:=Og h (show 0≤g by omega);have h4:a/g≤a/g*g:=by
   have:a/g*1≤a/g*g:=Me (by omega) h3;omega
  omega
 ·have h3:a/g≤0:=by
   have:=Int.ediv_le_ediv hg h;rw[Int.zero_ediv] at this;exact this
  have h5:a≤a/g:=by
   have:a/1≤a/g:=by
    have q:(a/g+1)*g≤(a/g+1)*1∨0<a/g+1:=by
     rcases RN (a/g+1) 0 with z|z
     ·left;have:=Me (a:=1) (b:=g) (c:=-(a/g+1)) (by omega) (by omega);have e1:-(a/g+1)*1=-((a/g+1)*1):=Sy _ _;have e2:-(a/g+1)*g=-((a/g+1)*g):=Sy _ _;omega
     ·rcases Int.lt_or_eq_of_le z with z|z
      ·right;exact z
      ·left;rw[←z];simp
    rw[RJ];rcases q with q|q
    ·omega
    ·omega
   rw[RJ] at this;exact this
  omega
theorem wT(hb:0<b)(h1:a.natAbs<2^n)(h2:b.natAbs<2^n):Wf n (dk a b):=
 ⟨Nc hb (Lw (bR hb)) (Nn a b),K9 (fm _ (bR hb)) h1,K9 (fm _ (bR hb)) h2,Oc (by have:=bR (a:=a) hb;omega)⟩
def bj(r q:R):R:=dk (r.1*q.2+q.1*r.2) (r.2*q.2)
def aJ(r q:R):R:=dk (r.1*q.1) (r.2*q.2)
def cy(r q:R):Bool:=decide (r.1*q.2<q.1*r.2)
theorem hV{x y:Int}(h1:x.natAbs<2^n)(h2:y.natAbs<2^m):(x*y).natAbs<2^(n+m):=by
 rw[Ms,QQ];exact Nat.mul_lt_mul'' h1 h2
end B
namespace B
open PySem L2 PyProof.Rows
def GU(i j:Int):Prop:=i.natAbs<2^4000/\j.natAbs<2^4000
def GR(_ j:Int):Prop:=0<j/\j.natAbs<2^4000
theorem sj(h:i.natAbs<2^4000):Q8 i≤2^20:=by
 unfold Q8
 split
 ·exact KJ _
 ·rename_i z;have hz:i.natAbs≠0:=λq=>z (by
   have:i=0:=by omega
   rw[this];rfl)
  have:=(Nat.log2_lt hz).mpr h;have e:(2:Nat)^20=1048576:=by decide
  omega
section
variable {X:Cx}
theorem bi:fJ X (NK .Mult) (rI GU λi j=>.int (i*j)):=DB λ_ _ _ _ _ _ _ hc q=>mul_int q (IntMulOk.of_bits (sj hc.1) (sj hc.2))
theorem c6:fJ X (NK .FloorDiv) (rI GR λi j=>.int (i/j)):=DB λi j _ _ _ _ _ hc q=>by
 have h1:(0:Int)<j:=hc.1;have h2:j.natAbs<2^4000:=hc.2;refine floordiv_int (by omega) (by rw[Pf i (by omega)];exact q) (.inl (PyProof.noPylong_of_log2 ?_));exact N8 ((Nat.log2_lt (show j.natAbs≠0 by omega)).mpr h2) (by decide)
end
def aT(K:J5)(H H':Hp):Prop:=∀p xs,bH K H p xs->bH K H' p xs
theorem aT.trans{K:J5}{H H1 H2:Hp}(a:aT K H H1)(b:aT K H1 H2):aT K H H2:=λp xs h=>b p xs (a p xs h)
theorem aT.same{K:J5}{H H':Hp}(s:aC H H'):aT K H H':=λp xs h=>by
 rcases h with(h | ⟨o,h⟩)|h
 ·exact .inl (.inl (s _ _ h))
 ·exact .inl (.inr ⟨o,s _ _ h⟩)
 ·exact .inr h
theorem aT.step{K:J5}{t:Addr}{H H':Hp}(S:Am t H H'):aT K H H':=λp xs h=>by
 obtain⟨ys,ht⟩:=S.tp;rcases h with(h | ⟨o,h⟩)|h
 ·exact .inl (.inl (S.keep _ _ (λz=>by subst z;rw[h] at ht;cases ht) h))
 ·exact .inl (.inr ⟨o,S.keep _ _ (λz=>by subst z;rw[h] at ht;cases ht) h⟩)
 ·exact .inr h
theorem aT.up{K:J5}{H:Hp}{l:Addr}{xs:List V}(h:H l=some (.lst xs))(ys:List V):aT K H (av H l (.lst ys)):=aT.step (Am.up h)
def RV(K:J5)(H:Hp)(v:V)(r:R):Prop:=∃p,v=.ref p/\bH K H p [.int r.1,.int r.2]
theorem RV.mono{K:J5}{H H':Hp}{v:V}{r:R}(h:RV K H v r)(t:aT K H H'):RV K H' v r:=let ⟨p,e,q⟩:=h;⟨p,e,t _ _ q⟩
theorem RV.of{K:J5}{H:Hp}{p:Addr}{a b:Int}(h:H p=some (.tup [.int a,.int b])):RV K H (.ref p) (a,b):=⟨p,Z,bH.of h⟩
def FP(K:J5)(H:Hp)(xs:List V)(rs:List R):Prop:=xs.length=rs.length/\∀(i:Nat) (x:V) (r:R),xs[i]?=some x->rs[i]?=some r->RV K H x r
theorem FP.at{K:J5}{H:Hp}{xs:List V}{rs:List R}{i:Nat}{x:V}(h:FP K H xs rs)(e:xs[i]?=some x):∃r,rs[i]?=some r/\RV K H x r:=by
 have hi:=(Kg.mp e).1;have hj:i<rs.length:=by rw[←h.1];exact hi
 exact⟨rs[i],J6 hj,h.2 i x _ e (J6 hj)⟩
def Et(r:R):Nat->R
 |0=>(1,1)
 |k+1=>aJ (Et r k) r
theorem lZ:Wf 1 (0,1):=⟨by decide,by decide,by decide,by decide⟩
def cN(rs:List R):R:=rs.foldl bj (0,1)
theorem uC(rs:List R)(r:R):cN (rs++[r])=bj (cN rs) r:=by unfold cN;rw[NV];rfl
def dR(r:R):Kv:=.tuple [.int r.1,.int r.2]
theorem RV.deep{K:J5}{H:Hp}{v:V}{r:R}(h:RV K H v r):bS K H v (dR r):=by
 obtain⟨p,rfl,q⟩:=h;exact .tup q (.cons (.int _) (.cons (.int _) .nil))
theorem xS(r:R):(dR r).depth≤32:=by show max 0 (max 0 0)+1≤32;decide
theorem C3(h:LD (dR r) (dR q)=true):r=q:=by
 have z:(r.1==q.1&&(r.2==q.2&&true))=true:=h;simp only[NT,LG,beq_iff_eq] at z;exact TB z.1 z.2
theorem xG(r:R):LD (dR r) (dR r)=true:=by
 show(r.1==r.1&&(r.2==r.2&&true))=true;simp
end B
namespace B
open PySem L2 PyProof.Rows
def dL(rs:List R):Kv:=.list (rs.map dR)
def ET(K:J5)(tl:TE):TI:=λσ H R=>tl σ H λx H1=>(∃a,x=.ref a/\(∃xs,aO K H1 a xs)/\R (yt K a) H1)∨(∃a,x=.ref a/\(∃xs,bH K H1 a xs)/\R (yr K a) H1)
theorem B3(hl:PE X l tl):PI X tg l (ET X.K tl):=by
 intro pins s σ H R I h;refine bJ (hl pins s σ H _ I h) λv s1 ⟨x,H1,I1,r1,q1⟩=>?_
 rcases q1 with⟨a,e,⟨xs,hq⟩,q⟩ | ⟨a,e,⟨xs,hq⟩,q⟩
 ·subst e;cases r1;obtain⟨its,rv,p,hz⟩:=I1.list hq;refine Oz p.isList ?_;refine⟨s1.heap.objs.size,[s1.heap.objs.size],_,_,H1,Z,I1.kept (t':=s1.toks) λb o e=>Kd _ e,k9 a _,⟨_,Kq _ Z,Z,Z⟩,λb hb=>?_,q⟩;have e:b=s1.heap.objs.size:=by simpa using hb
  subst e;exact I1.fpOk (Kb _) (I1.hok.fresh (Kb _))
 ·subst e;cases r1;obtain⟨its,rv,p,hz⟩:=I1.tuple hq;refine Pe (show s1.heap.IsTuple a its.toArray from p) ?_;refine⟨s1.heap.objs.size,[s1.heap.objs.size],_,_,H1,Z,I1.kept (t':=s1.toks) λb o e=>Kd _ e,jK a _,⟨_,Kq _ Z,Z,Z⟩,λb hb=>?_,q⟩;have e:b=s1.heap.objs.size:=by simpa using hb
  subst e;exact I1.fpOk (Kb _) (I1.hok.fresh (Kb _))
end B
namespace B
structure eh(r:R):Prop where
 pos:0<r.2
 cop:KA r.1 r.2=1
theorem gB(hb:0<b):eh (dk a b):=
 ⟨Nc hb (Lw (bR hb)) (Nn a b),Oc (by have:=bR (a:=a) hb;omega)⟩
theorem dG(hb:0<b)(hy:0<y)(g:KA x y=1)(e:x*b=a*y):dk a b=(x,y):=by
 have h1:KA (a*y) (b*y)=KA a b*y.natAbs:=RO a y b;have h2:KA (x*b) (y*b)=KA x y*b.natAbs:=RO x b y;rw[e,MK y b,h1,g,Nat.one_mul] at h2;have h3:(KA a b:Int)*y=b:=by
  have z:((KA a b*y.natAbs:Nat):Int)=(b.natAbs:Int):=congrArg _ h2;rw[NL,QR (by omega),QR (by omega)] at z;exact z
 have gp:=bR (a:=a) hb;have h4:a=x*(KA a b:Int):=by
  have z:x*(KA a b:Int)*y=a*y:=by rw[PV,h3];exact e
  exact(Pj (by omega) z).symm
 unfold dk;generalize (KA a b:Int)=G at h3 h4 gp;subst h4;subst h3;rw[Int.mul_ediv_cancel _ (by omega),KS _ (by omega)]
theorem gs(h:KA a b=1)(d:c∣a):KA c b=1:=
 Ru.mpr λz h1 h2=>Ru.mp h z (NU h1 d) h2
theorem gE(h:KA a b=1)(d:c∣b):KA a c=1:=by
 rw[ML];exact gs (by rw[ML];exact h) d
theorem jG(h:KA a b=1)(k:KA a c=1):KA a (b*c)=1:=by
 rw[Int.gcd_mul_right_right_of_gcd_eq_one h];exact k
theorem iC(h:KA a c=1)(k:KA b c=1):KA (a*b) c=1:=by
 rw[ML];exact jG (by rw[ML];exact h) (by rw[ML];exact k)
theorem eE(hb:0<b):∃g x y:Int,(KA a b:Int)=g/\0<g/\a=g*x/\b=g*y/\KA x y=1:=by
 have gp:=bR (a:=a) hb;obtain⟨x,hx⟩:=Sn a b;obtain⟨y,hy⟩:=Nn a b;refine⟨_,x,y,Z,gp,hx,hy,?_⟩;have z:=Oc (i:=a) (j:=b) (by omega);have e1:a/(KA a b:Int)=x:=by
  conv=>lhs;lhs;rw[hx]
  exact KS _ (by omega)
 have e2:b/(KA a b:Int)=y:=by
  conv=>lhs;lhs;rw[hy]
  exact KS _ (by omega)
 rw[e1,e2] at z;exact z
theorem g8{g y b:Int}(hb:0<b)(hg:0<g)(e:b=g*y):0<y:=by
 rcases Int.lt_or_le 0 y with h|h
 ·exact h
 ·have:=Me h (Lw hg);rw[M6] at this;omega
def oC(r q:R):R:=
 let d:Int:=(KA r.2 q.2:Nat);let t:=r.1*(q.2/d)+q.1*(r.2/d);let e:Int:=(KA t d:Nat)
 (t/e,r.2/d*(q.2/e))
theorem v6(hr:eh r)(hq:eh q):oC r q=bj r q:=by
 obtain⟨d,u,v,e0,dp,e1,e2,cuv⟩:=eE (a:=r.2) hq.pos;have up:=g8 hr.pos dp e1;have vp:=g8 hq.pos dp e2;obtain⟨e,x,w,f0,ep,f1,f2,cxw⟩:=eE (a:=r.1*v+q.1*u) dp;have wp:=g8 dp ep f2;have du:r.2/d=u:=by rw[e1];exact KS _ (by omega)
 have dv:q.2/d=v:=by rw[e2];exact KS _ (by omega)
 have te:(r.1*v+q.1*u)/e=x:=by rw[f1];exact KS _ (by omega)
 have qe:q.2/e=w*v:=by rw[e2,f2,PV];exact KS _ (by omega)
 have c1:KA r.1 u=1:=gE hr.cop ⟨d,by rw[e1,MK]⟩;have c2:KA q.1 v=1:=gE hq.cop ⟨d,by rw[e2,MK]⟩;have xd:x∣(r.1*v+q.1*u):=⟨e,by rw[f1,MK]⟩;have t1:KA (r.1*v+q.1*u) u=1:=by
  rw[ML,O7,ML];exact iC c1 (by rw[ML];exact cuv)
 have t2:KA (r.1*v+q.1*u) v=1:=by
  rw[Int.add_comm,ML,O7,ML];exact iC c2 cuv
 have cx:KA x (u*(w*v))=1:=jG (gs t1 xd) (jG cxw (gs t2 xd));have z:oC r q=(x,u*(w*v)):=by
  unfold oC;simp only[e0,du,dv,f0,te,qe]
 rw[z];unfold bj;refine(dG (LJ hr.pos hq.pos) (LJ up (LJ wp vp)) cx ?_).symm;have k:r.1*q.2+q.1*r.2=d*(e*x):=by
  rw[e1,e2,←f1,Int.mul_add];rw[RP r.1 d v,RP q.1 d u]
 rw[k,e1,e2];have k2:d*u*(d*v)=d*u*(e*w*v):=by rw[←f2]
 rw[k2]
 ac_rfl
def jL(r q:R):R:=
 let l:Int:=(KA r.1 q.2:Nat);let m:Int:=(KA q.1 r.2:Nat)
 (r.1/l*(q.1/m),r.2/m*(q.2/l))
theorem sT(hr:eh r)(hq:eh q):jL r q=aJ r q:=by
 obtain⟨l,a,b,e0,lp,e1,e2,cab⟩:=eE (a:=r.1) hq.pos;obtain⟨m,c,d,f0,mp,f1,f2,ccd⟩:=eE (a:=q.1) hr.pos;have bp:=g8 hq.pos lp e2;have dp:=g8 hr.pos mp f2;have z:jL r q=(a*c,d*b):=by
  unfold jL;simp only[e0,f0];rw[show r.1/l=a by rw[e1];exact KS _ (by omega),show q.2/l=b by rw[e2];exact KS _ (by omega),
   show q.1/m=c by rw[f1];exact KS _ (by omega),show r.2/m=d by rw[f2];exact KS _ (by omega)]
 have cad:KA a d=1:=gs (gE hr.cop ⟨m,by rw[f2,MK]⟩) ⟨l,by rw[e1,MK]⟩;have ccb:KA c b=1:=gs (gE hq.cop ⟨l,by rw[e2,MK]⟩) ⟨m,by rw[f1,MK]⟩;rw[z];unfold aJ;refine(dG (LJ hr.pos hq.pos) (LJ dp bp) (jG (iC cad ccd) (iC cab ccb)) ?_).symm;rw[e1,e2,f1,f2]
 ac_rfl
theorem oB(hr:eh r)(hq:eh q):eh (bj r q):=gB (LJ hr.pos hq.pos)
theorem iQ(hr:eh r)(hq:eh q):eh (aJ r q):=gB (LJ hr.pos hq.pos)
end B
namespace B
open PySem L2 PyProof.Rows
def Il(_ j:Int):Prop:=j≠0/\j.natAbs<2^4000
def Jc(a b:Int):R:=if b<0 then dk (-a) (-b) else dk a b
def eL(r q:R):R:=dk (r.1*q.2-q.1*r.2) (r.2*q.2)
def EB(r q:R):R:=Jc (r.1*q.2) (r.2*q.1)
structure Ic(d:Kv):Prop where
 sh:d.showable=true
 nd:d.hasDict=false
 sz:d.shown.length≤5000
 dp:d.depth≤8
end B
namespace B
theorem lG(hb:0<b):(dk a b).1*b=a*(dk a b).2:=by
 obtain⟨g,x,y,_,gp,e1,e2,c⟩:=eE (a:=a) hb;have yp:=g8 hb gp e2;have e:x*b=a*y:=by rw[e1,e2];ac_rfl
 rw[dG hb yp c e];exact e
theorem oM(r q:R):bj r (-q.1,q.2)=eL r q:=by
 unfold bj eL;rw[Sy,←Rv]
end B
namespace B
open PySem PySem.Spec L2 PyProof.Rows
section
variable {prog:KZ}{w:Lk}{A:K3}{E:Value->Ka->Prop}{h:Kp}{g:Array GenState}{d:Drawn}{t:Nat}{os:OsState}{K:J5}
variable {nm q:K1}{C N:Addr}{bs bm bmB:List Value}{hdct:Bool}{sn:List K1}{sub:List Value}{ab:Bool}{col:Option Bool}{dd:Option Addr}{k0 k1 k2 k3 k5:Option Value}{bN newId initId:String}
end
def DQ:List Value:=[.type "ValueError",.type "Exception",.type "BaseException",.type "object"]
structure um(K:J5)(C:Addr)(bm:List Value):Prop where
 ob:∃nm q N bs hdct sn sub ab col dd k0 k1 k2 k3 k5,K.lookup C=some (excClassObj nm q C N bs bm hdct sn sub ab col dd k0 k1 k2 k3 k5 "ValueError.__new__")
 tl:∀h:Kp,K.In h->OwnTail h DQ bm
 hd:OA K C=true
 sa:Lp K (.ref C) "__setattr__"=some (some (.builtin "object.__setattr__"))
section
variable {prog:KZ}{w:Lk}{A:K3}{s:Ka}{K:J5}{x C:Addr}{R:SQ->Ka->Prop}
end
def GO(a C:Addr)(dx:Option Addr):Kp->Prop:=λh=>∃t:Addr,h.get? a=some { cls:=.ref C,dict:=dx,data:=.fields #[.ref t,.none,.none,.none,.bool false,.none]}
def xF(a C:Addr)(dx:Option Addr):HO:=.ext (GO a C dx)
def HQ(H:Hp)(a:Addr):Hp:=λb=>if b=a then none else H b
section
variable {X:Cx}{pins:List (Addr×LY)}{σ:L2.St}{H:Hp}{s:Ka}{a C:Addr}{dx:Option Addr}
end
def HY(h:Kp)(H:Hp)(x C T:Addr)(a0:Value):Prop:=
 ∃oe vs oT ts,h.get? x=some oe/\oe.cls=.ref C/\vs[0]?=some a0/\oe.data=.fields vs/\vs[1]?=some (.ref T)/\H T=none/\T≠x/\h.get? T=some oT/\oT.data=.fields ts/\ts[3]?=some .none
def J2(P:KZ)(w:Lk):pH:=λouter H s E e s'=>∃(x C T:Addr) (a0:Value) (H':Hp),e=.ref x/\s'.os=s.os/\OQ s'.gens/\Un (rV outer) [] H H' s.heap s'.heap/\gS P w H' s'.heap/\s.heap.get? x=none/\s.heap.get? T=none/\H' x=none∧
 HY s'.heap H' x C T a0/\E (.ref C) none H'
structure lX(X:Cx)(pins:List (Addr×LY))(a:Addr):Prop where
 st:X.s₀.heap.get? a=none
 lo:a≠X.env.locals
 ce:∀x c,X.env.cells.lookup x=some c->c≠a
 pi:∀p∈X.pn++pins,p.1≠a
 fr:a∉rV X.stack
section
variable {X:Cx}{pins:List (Addr×LY)}{σ:L2.St}{H H':Hp}{s:Ka}{a:Addr}
end
section
variable {X:Cx}{pins:List (Addr×LY)}{σ:L2.St}{H:Hp}{s:Ka}{a:Addr}{o:HO}
end
structure XC(K:J5)(C f:Addr)(bm:List Value):Prop where
 ob:∃nm q N bs hdct sn sub ab col dd k0 k1 k2 k3 k5,K.lookup C=some (excClassObj nm q C N bs bm hdct sn sub ab col dd k0 k1 k2 k3 k5 "ValueError.__new__")
 tl:∀h:Kp,K.In h->OwnTail h DQ bm
 init:Lp K (.ref C) "__init__"=some (some (.ref f))
 fn:SO K (.ref f)=some (.type "function")
 kp:Mr K (.ref C)=true
 cl:um K C bm
section
variable {X:Cx}{k:Nat}{f C:Addr}{fd:Kh}{ps:List K1}{sp:Sp}{bm:List Value}
def HZ(X:Cx)(E:XK):Prop:=∀(pins:List (Addr×LY)) (σ:L2.St) (H:Hp) (s:Ka) (a C:Addr) (oe:LY) (vs:Array Value) (a0:Value),L2.Inv X pins σ H s->H a=none->lX X pins a->s.heap.get? a=some oe->oe.data=.fields vs→
 vs[0]?=some a0->vs[1]?=some .none->oe.cls=.ref C->E (.ref C) none H->X.xe (.ref a) s
def F3(C:Addr)(sp:Sp)(E:XK)(t:TA):TS:=λ_ σ H=>t σ H λvs H1=>vs.length≤sizeLine/\∀a,H1 a=none->sp (.ref a::vs) (av H1 a (xF a C none)) (λv H2=>v=.non/\(∃dx,H2 a=some (xF a C dx))/\E (.ref C) none (HQ H2 a)) E0
end
section
variable {X:Cx}{pins:List (Addr×LY)}{σ:L2.St}{H:Hp}{s:Ka}{a C T:Addr}{a0:Value}
end
def zX(N:List K1):L2.St:=Ki N.length none
def Jz(X:Cx)(pins:List (Addr×LY))(R:Addr->Hp->Prop):Value->Ka->Prop:=λe s=>∃(x C T:Addr) (a0:Value) (H:Hp),e=.ref x/\L2.Inv X pins (zX X.N) H s/\H x=none/\lX X pins x/\lX X pins T/\HY s.heap H x C T a0/\R C H
def Ht(X:Cx)(pins:List (Addr×LY))(R:Addr->Hp->Prop):Cx:={ X with pn:=X.pn++pins,xe:=Jz X pins R}
def Hu(X:Cx)(e:Addr):Cx:={ X with A:=X.A.mark (some (.ref e)),calm:=false,xe:=λ_ _=>False}
section
variable {X:Cx}{pins pins':List (Addr×LY)}{σ:L2.St}{H:Hp}{s:Ka}{R:Addr->Hp->Prop}{e:Addr}
end
def IB(N:List K1)(R:Addr->Hp->Prop)(Ok:Addr->Prop)(tb:TS)(th:TS):TS:=λD σ H=>tb D σ H/\∀C H',R C H'->Ok C/\th D (zX N) H'
section
variable {X:Cx}{R:Addr->Hp->Prop}{body:List Stmt}{b₀:Stmt}{suite:List Stmt}{x:K1}{p hpos pos:NW}{u:Value}{tb th:TS}
end
section
variable {X:Cx}{o value:Le}{f:K1}{ta tv:TE}{pos' pos:NW}
def G7(K:J5)(ta tv:TE)(f:K1):TS:=λD σ H=>tv σ H λ_ H1=>ta σ H1 λx H2=>∃a C bm,x=.ref a/\H2 a=some (xF a C none)/\um K C bm/\cS K C f/\∀d,D.nx σ (av H2 a (xF a C (some d)))
end
def JD(R:Addr->Hp->Prop):XK:=λv _ H=>∃C,v=.ref C/\R C H
def D5(es:Array Q2):Bool:=es.toList.all λe=>match e.key with
 | .str _ _=>true
 |_=>false
structure Dv(K:J5)(C:Addr):Prop where
 ga:Lp K (.ref C) "__getattribute__"=some (some (.builtin "BaseException.__getattribute__"))
 gn:Lp K (.ref C) "__getattr__"=some none
 cl:Lp K (.ref C) "__class__"=some (some (.builtin "object.__class__"))
 cg:Pz K (.builtin "object.__class__") "__get__"=some (some (.builtin "getset_descriptor.__get__"))
 ct:SF K (.builtin "object.__class__")=some true
section
variable {prog:KZ}{w:Lk}{A:K3}{E:Value->Ka->Prop}{s:Ka}{K:J5}{x C:Addr}{ox:LY}{odo:Option LY}{bm:List Value}{name:K1}{tk:Tx}{R:SQ->Ka->Prop}
end
section
variable {K:J5}{x C:Addr}{ox od:LY}{bm:List Value}
end
structure Ju(S ch:List Addr)(h h':Kp):Prop where
 same:∀b o,b∉S->b∉ch->h.get? b=some o->h'.get? b=some o
 slot:∀b o,b∉ch->h.get? b=some o->∃sl,h'.get? b=some { o with slots:=sl}
def Fe(h:Kp)(x C T:Addr)(dx:Option Addr)(fl:Value):Prop:=
 ∃oe vs oT ts,h.get? x=some oe/\oe.cls=.ref C/\oe.dict=dx/\oe.data=.fields vs/\vs[1]?=some (.ref T)/\T≠x/\h.get? T=some oT/\oT.data=.fields ts/\ts[3]?=some fl
section
variable {M:Model}{A:K3}{E:Value->Ka->Prop}{s:Ka}{base:Kp}{env:SK}{outer:List SK}{L e C T:Addr}{oe:LY}{vs:Array Value}{dx:Option Addr}{fl:Value}
end
def GP(d:Addr)(fs:List (K1×V)):Kp->Prop:=λh=>∃mA,h.Ns1 d mA/\∀f,fT (fs.lookup f) (mA f)
def dO(d:Addr)(fs:List (K1×V)):HO:=.ext (GP d fs)
section
variable {X:Cx}{pins:List (Addr×LY)}{σ:L2.St}{H:Hp}{s:Ka}{a C:Addr}
end
section
variable {X:Cx}{o value:Le}{f:K1}{ta tv:TE}{pos' pos:NW}
def G8(K:J5)(ta tv:TE)(f:K1):TS:=λD σ H=>tv σ H λy H1=>ta σ H1 λx H2=>∃a C bm,x=.ref a/\um K C bm/\cS K C f∧
 ((H2 a=some (xF a C none)/\∀d,H2 d=none->d≠a->D.nx σ (av (av H2 a (xF a C (some d))) d (dO d [(f,y)])))∨
  ∃d fs,H2 a=some (xF a C (some d))/\H2 d=some (dO d fs)/\fs.length≤100/\D.nx σ (av H2 d (dO d ((f,y)::fs))))
end
section
variable {X:Cx}{pins:List (Addr×LY)}{σ:L2.St}{H:Hp}{s:Ka}{a C T:Addr}{dx:Option Addr}{fl:Value}
end
def J3(P:KZ)(w:Lk):pH:=λouter H s E e s'=>∃(x C T:Addr) (dx:Option Addr) (H':Hp),e=.ref x/\s'.os=s.os/\OQ s'.gens/\Un (rV outer) [] H H' s.heap s'.heap/\gS P w H' s'.heap/\s.heap.get? x=none/\s.heap.get? T=none/\H' x=none/\H' T=none∧
 Fe s'.heap x C T dx .none/\E (.ref C) dx H'
section
variable {P:KZ}{w:Lk}{K:J5}{mg:K1->Option Value}{base:Kp}{N:List K1}{qual:K1}{scope:Oa}{f:Addr}{cd:Value}{A:K3}{outer:List SK}{s:Ka}{H:Hp}{E:XK}
def GG(X:Cx)(E:XK):Prop:=∀(pins:List (Addr×LY)) (σ:L2.St) (H:Hp) (s:Ka) (a C:Addr) (dx:Option Addr) (oe:LY) (vs:Array Value),L2.Inv X pins σ H s->H a=none->lX X pins a->s.heap.get? a=some oe->oe.data=.fields vs→
 vs[1]?=some .none->oe.cls=.ref C->oe.dict=dx->E (.ref C) dx H->X.xe (.ref a) s
end
section
variable {X:Cx}{k:Nat}{f C:Addr}{fd:Kh}{ps:List K1}{sp:Sp}{bm:List Value}
def Ft(C:Addr)(sp:Sp)(E:XK)(t:TA):TS:=λ_ σ H=>t σ H λvs H1=>vs.length≤sizeLine/\∀a,H1 a=none->sp (.ref a::vs) (av H1 a (xF a C none)) (λv H2=>v=.non/\∃dx,H2 a=some (xF a C dx)/\E (.ref C) dx (HQ H2 a)) E0
end
abbrev RX:=Addr->Option Addr->Hp->Prop
def GN(X:Cx)(pins:List (Addr×LY))(R:RX):Value->Ka->Prop:=λe s=>∃(x C T:Addr) (dx:Option Addr) (H:Hp),e=.ref x/\L2.Inv X pins (zX X.N) H s/\H x=none/\lX X pins x/\H T=none/\lX X pins T/\Fe s.heap x C T dx .none/\R C dx H
def Gx(X:Cx)(pins:List (Addr×LY))(R:RX):Cx:={ X with pn:=X.pn++pins,xe:=GN X pins R}
section
variable {X:Cx}{pins pins':List (Addr×LY)}{σ:L2.St}{H:Hp}{s:Ka}{R:RX}{e:Addr}
def JE(R:RX):XK:=λv dx H=>∃C,v=.ref C/\R C dx H
end
def JC(a C d:Addr):Kp->Prop:=λh=>∃oe,h.get? a=some oe/\oe.cls=.ref C/\oe.dict=some d/\PySem.W.notCls oe=true
def GB(a C d:Addr):HO:=.ext (JC a C d)
def GA(i:Nat)(D:js):js:={ nx:=λσ H=>D.nx (σ.set i none) H,rt:=D.rt,bk:=λσ H=>D.bk (σ.set i none) H,ct:=λσ H=>D.ct (σ.set i none) H}
def GW(N:List K1)(R:RX)(Ok:Addr->Prop)(tb th:TS):TS:=λD σ H=>tb D σ H/\∀C dx H',R C dx H'->Ok C/\th D (zX N) H'
def FY(N:List K1)(i:Nat)(R:RX)(Ok:Addr->Prop)(tb th:TS):TS:=λD σ H=>tb D σ H/\∀C dx H',R C dx H'->Ok C/\∃d,dx=some d/\∀a,H' a=none->th (GA i D) ((zX N).set i (some (.ref a))) (av H' a (GB a C d))
section
variable {X:Cx}{R:RX}{body:List Stmt}{b₀:Stmt}{suite:List Stmt}{x:K1}{p hpos pos:NW}{u:Value}{tb th:TS}
end
def IZ(K:J5):List V->Hp->VK->Prop:=λxs H Q=>∃(a C d:Addr) (fs:List (K1×V)) (bm:List Value) (c:V) (b:Bool),xs=[.ref a,c]/\H a=some (GB a C d)/\H d=some (dO d fs)/\um K C bm/\Dv K C∧
 ((∃n,c=.ty n/\NZ K (.ref C) (.type n)=some b)∨(∃D,c=.ref D/\NZ K (.ref C) (.ref D)=some b)∨
  ∃(p:Addr) (cs:List Addr),c=.ref p/\H p=some (.tup (cs.map V.ref))/\SY K (.ref C) (cs.map K7)=some b)/\Q (.bl b) H
def AZ(H:Hp)(a C d:Addr):Prop:=H a=some (GB a C d)∨H a=some (xF a C (some d))
section
variable {X:Cx}{pins:List (Addr×LY)}{σ:L2.St}{H:Hp}{s:Ka}{a C d:Addr}{fs:List (K1×V)}
end
def G2(K:J5)(ta:TE)(f:K1):TE:=λσ H Q=>ta σ H λx H1=>∃a C d fs bm v,x=.ref a/\AZ H1 a C d/\H1 d=some (dO d fs)/\um K C bm/\Dv K C/\cS K C f/\fs.lookup f=some v/\Q v H1
def IY(K:J5):List V->Hp->VK->Prop:=λxs H Q=>∃(a C d:Addr) (fs:List (K1×V)) (bm:List Value) (c:V) (b:Bool),xs=[.ref a,c]/\AZ H a C d/\H d=some (dO d fs)/\um K C bm/\Dv K C∧
 ((∃n,c=.ty n/\NZ K (.ref C) (.type n)=some b)∨(∃D,c=.ref D/\NZ K (.ref C) (.ref D)=some b)∨
  ∃(p:Addr) (cs:List Addr),c=.ref p/\H p=some (.tup (cs.map V.ref))/\SY K (.ref C) (cs.map K7)=some b)/\Q (.bl b) H
def F4(C:Addr)(sp:Sp)(t:TA):TE:=λσ H Q=>t σ H λvs H1=>vs.length≤sizeLine/\∀a,H1 a=none->sp (.ref a::vs) (av H1 a (xF a C none)) (λv H2=>v=.non/\Q (.ref a) H2) E0
theorem rc{X:Cx}{pins:List (Addr×LY)}{σ:L2.St}{H:Hp}{s:Ka}{h':Kp}{t':Nat}{fp:List Addr}(I:Inv X pins σ H s)
  (k:∀b o,b∉fp->s.heap.get? b=some o->h'.get? b=some o) (hf:∀b∈fp,i3 X pins H b):Inv X pins σ H { s with heap:=h',toks:=t'}:=by
 have off:∀b u,H b=some u->b∉fp:=λb u e z=>by rw[(hf b z).1] at e;cases e
 refine I.step (g':=s.gens) (d':=s.drawn) (ch:=fp) (λb hb=>?_) (λb o _ _ hc e _=>k b o hc e) (λb o _ _ hc e _=>⟨o.slots,k b o hc e⟩) (λ_ _ _ _ n=>n)
  (λb o hc e=>⟨o,k b o hc e⟩) (λ_ _ e=>e) (λ_ _ _ e=>e) (λb ps e=>⟨#[],by rw[e];simp⟩) (λm hm=>?_) (λb u e=>?_) I.bare
 ·obtain⟨_,f1,_,f3,f4,f5⟩:=hf b hb;exact⟨f3,f1,f4,f5⟩
 ·obtain⟨o,es,ep,ho,r⟩:=hm;exact⟨o,es,ep,k _ o (λz=>(hf _ z).2.1 Z) ho,r⟩
 ·refine(I.hok b u e).stay (λc v hc q=>k c v ?_ q) (λ_ q=>q) λ_ _ q=>q
  rcases hc with z|z
  ·rw[z];exact off b u e
  ·exact off c _ z
section
variable {prog:KZ}{w:Lk}{A:K3}{E:Value->Ka->Prop}{s:Ka}
structure JA(z TI TO i1 i2:Addr):Prop where
 a1:TI≠z
 a2:TO≠z
 a3:i1≠z
 a4:i2≠z
 a5:TI≠TO
 a6:TI≠i1
 a7:TI≠i2
 a8:TO≠i1
 a9:TO≠i2
 b1:i1≠i2
end
theorem qZ{X:Cx}{pins:List (Addr×LY)}{σ:L2.St}{H:Hp}{s:Ka}{h':Kp}{t':Nat}{fp:List Addr}{p:Addr}{v:HO}(I:Inv X pins σ H s)
  (k:∀b o,b∉fp->s.heap.get? b=some o->h'.get? b=some o) (hf:∀b∈fp,i3 X pins H b) (hp:s.heap.objs.size≤p) (new:bo X.prog X.w (av H p v) h' p v) :
  Inv X pins σ (av H p v) { s with heap:=h',toks:=t'}:=by
 have off:∀b u,H b=some u->b∉fp:=λb u e z=>by rw[(hf b z).1] at e;cases e
 have hn:H p=none:=I.hok.fresh hp;have old:∀b u,H b=some u->av H p v b=some u:=λb u e=>by rw[ak (aB e hn)];exact e
 refine I.step (g':=s.gens) (d':=s.drawn) (ch:=fp) (λb hb=>?_) (λb o _ _ hc e _=>k b o hc e) (λb o _ _ hc e _=>⟨o.slots,k b o hc e⟩) (λb o _ e n=>?_)
  (λb o hc e=>⟨o,k b o hc e⟩) (λb xs e=>old b _ e) (λb o u e=>old b _ e) (λb ps e=>⟨#[],by rw[old b _ e];simp⟩) (λm hm=>?_) (λb u e=>?_) I.bare
 ·obtain⟨_,f1,_,f3,f4,f5⟩:=hf b hb;exact⟨f3,f1,f4,f5⟩
 ·rw[ak (KM (Ky (Kx e) hp))];exact n
 ·obtain⟨o,es,ep,ho,r⟩:=hm;exact⟨o,es,ep,k _ o (λz=>(hf _ z).2.1 Z) ho,r⟩
 ·by_cases hb:b=p
  ·subst hb;rw[zqd] at e;cases e;exact new
  ·rw[ak hb] at e;refine(I.hok b u e).stay (λc v hc q=>k c v ?_ q) (λc q=>old c _ q) λc xs q=>old c _ q
   rcases hc with z|z
   ·rw[z];exact off b u e
   ·exact off c _ z
def Jv(K:J5)(a b:Addr):It:=
 ⟨λi H=>∃xs ys x y,bH K H a xs/\bH K H b ys/\xs[i]?=some x/\ys[i]?=some y,
  λi H v H'=>∃p x y,H p=none/\v=.ref p/\H'=av H p (.tup [x,y])/\(∀xs,bH K H a xs->xs[i]?=some x)/\∀ys,bH K H b ys->ys[i]?=some y,
  λi H=>∃xs ys,bH K H a xs/\bH K H b ys/\(xs.length≤i∨ys.length≤i)⟩
def JV(z TI TO i1 i2 a b:Addr)(i:Nat)(h:Kp):Prop:=IsZip h z TI TO .none/\SZ h TI (.ref i1) (.ref i2)/\(∃u v,SZ h TO u v)/\h.IsTupleIter i1 a i/\h.IsTupleIter i2 b i
abbrev zA(h:Kp)(a:Addr):Kp:=h.push { cls:=.type "tuple_iterator",data:=.fields #[.ref a,.int 0 0]}
abbrev zB(h:Kp)(a b:Addr):Kp:=zA (zA h a) b
abbrev zC(h:Kp)(a b:Addr):Kp:=(zB h a b).push { cls:=.type "tuple",data:=.seq #[.ref h.objs.size,.ref (zA h a).objs.size]}
abbrev zD(h:Kp)(a b:Addr):Kp:=(zC h a b).push { cls:=.type "tuple",data:=.seq #[.none,.none]}
abbrev zE(h:Kp)(a b:Addr):Kp:=(zD h a b).push { cls:=.type "zip",data:=.fields #[.none,.bool false,.bool false,.ref (zB h a b).objs.size,.ref (zC h a b).objs.size]}
def Je(K:J5)(ta:TA):TI:=λσ H R=>ta σ H λvs H1=>∃a b,vs=[.ref a,.ref b]/\(∃xs,bH K H1 a xs)/\(∃ys,bH K H1 b ys)/\R (Jv K a b) H1
theorem rp{X:Cx}{pins:List (Addr×LY)}{σ:L2.St}{H:Hp}{s:Ka}{a b:Addr}{xs:List V}(I:Inv X pins σ H s)(h:aO X.K H a xs)(f:i3 X pins H b):a≠b:=λz=>by
 subst z;rcases h with(h | ⟨o,h⟩) | ⟨o,its,n,hk,_⟩
 ·rw[f.1] at h;cases h
 ·rw[f.1] at h;cases h
 ·have e:=I.ok.mod.kin a o hk;rcases f.2.2.2.1 with z|z
  ·exact I.ok.noex a o e z
  ·rw[(I.ok.bs a o e).1] at z;cases z
theorem kg{h h':Kp}(x:h.IsListIter i a n)(k:∀o,h.get? i=some o->h'.get? i=some o):h'.IsListIter i a n:=x.at k
def GL(K:J5)(a:Addr):It:=
 ⟨λi H=>∃xs x,bH K H a xs/\xs[i]?=some x,
  λi H v H'=>∃p x,H p=none/\v=.ref p/\H'=av H p (.tup [.int i,x])/\∀xs,bH K H a xs->xs[i]?=some x,
  λi H=>∃xs,bH K H a xs/\xs.length≤i⟩
def Jf(K:J5)(ta:TA):TI:=λσ H R=>ta σ H λvs H1=>∃a,vs=[.ref a]/\(∃xs,bH K H1 a xs)/\R (GL K a) H1
def Du(K:J5)(a:Addr):It:=
 ⟨λi H=>∃xs x,aO K H a xs/\xs[i]?=some x,
  λi H v H'=>∃p x,H p=none/\v=.ref p/\H'=av H p (.tup [.int i,x])/\∀xs,aO K H a xs->xs[i]?=some x,
  λi H=>∃xs,aO K H a xs/\xs.length≤i⟩
theorem uq{P:KZ}{w:Lk}{K:J5}{elts:List Le}{x1}{pos:NW}{e it a:Addr}(hei:e≠it) :
  qP P w K (.Tuple elts x1 pos) (Du K a) [e,it] e (λi h=>(∃old,IsEnum h e it (i:Nat) old)/\h.IsListIter it a i) where
 mem:=by simp
 obj:=λi h st c hc=>by
  obtain⟨⟨old,h1⟩,⟨o2,h2,c2,d2⟩⟩:=st;simp only[Kn,L4,or_false] at hc;rcases hc with rfl|rfl
  ·exact⟨_,h1,λv q=>by cases(show Sv _=Tp v from q)⟩
  ·exact⟨o2,h2,λv q=>by rw[d2] at q;cases q⟩
 keep:=λi h h' st k=>by
  obtain⟨⟨old,h1⟩,h2⟩:=st;exact⟨⟨old,k e (by simp) _ h1⟩,kg h2 λo q=>k it (by simp) o q⟩
 item:=by
  intro X hP hw hK hc i pins s σ H E I hf st hg;subst hP hw hK;obtain⟨xs,x,q1,hx⟩:=hg;obtain⟨its,rv,p1,z1⟩:=I.list q1;obtain⟨u,hu,ru⟩:=rv.get hx;have off:∀c∈[e,it],a≠c:=λc hc=>rp I q1 (hf c hc)
  obtain⟨⟨old,h1⟩,h2⟩:=st;have hh:X.A.in1.handled=none:=I.ok.hd hc;have na:a≠it:=off it (by simp);have ne:e∉[it,a]:=λq=>by
   simp only[Kn,L4,or_false] at q;rcases q with q|q
   ·exact hei q
   ·exact off e (by simp) q.symm
  have hi:i<its.toArray.size:=by have:=(Kg.mp hu).1;simpa using this
  have el:e<s.heap.objs.size:=Kx h1;have il:it<s.heap.objs.size:=by obtain⟨o2,q2,_⟩:=h2;exact Kx q2
  refine wpAny_pyNext_enum_itemD (Draws.list hh it a na its.toArray) h1 ⟨h2,p1.isList⟩ hi hei ne λv h' tk hv eo st' tup hz hk=>⟨_,Z,wpAny_letOwnedTupleGo_enum eo λh'' e2 sb=>?_⟩
  have ev:v=u:=by
   have:its.toArray[i]?=some u:=by simpa using hu
   rw[this] at hv;exact(Lu hv).symm
  subst ev;have nt:s.heap.objs.size≠e:=NC el;have ni:s.heap.objs.size≠it:=NC il;have P:bo X.prog X.w (av H s.heap.objs.size (.tup [.int i,x])) h'' s.heap.objs.size (.tup [.int i,x]):=
   ⟨by show 2≤sizeLine;decide,[.int i tk,v],.cons ⟨_,Z⟩ (.cons ru .nil),⟨_,sb.extBut _ _ nt tup,Z,_,Z⟩⟩
  have I2:Inv X pins σ (av H s.heap.objs.size (.tup [.int i,x])) { s with heap:=h'',toks:=tk+1}:=qZ I (λc o' n q=>by
   have n1:c≠e:=λr=>n (by simp[r])
   have n2:c≠it:=λr=>n (by simp[r])
   exact sb.extBut _ _ n1 (hk c o' n1 n2 q)) hf (Kb _) P
  refine⟨.ref s.heap.objs.size,_,I2,Z,⟨_,x,I.fresh,Z,Z,λys hy=>by rw[I.list_inj hy q1];exact hx⟩,⟨⟨_,by simpa using e2⟩,kg st'.1 λo q=>sb.extBut _ _ hei.symm q⟩,λc hc=>?_⟩;have lt:c<s.heap.objs.size:=by
   simp only[Kn,L4,or_false] at hc;rcases hc with rfl|rfl
   ·exact el
   ·exact il
  rw[ak (KM lt)];exact(hf c hc).1
 done:=by
  intro X hP hw hK hc i pins s σ H E I hf st hg;subst hP hw hK;obtain⟨xs,q1,hx⟩:=hg;obtain⟨its,rv,p1,z1⟩:=I.list q1;have off:∀c∈[e,it],a≠c:=λc hc=>rp I q1 (hf c hc)
  obtain⟨⟨old,h1⟩,h2⟩:=st;have hh:X.A.in1.handled=none:=I.ok.hd hc;have hl:=rv.length;have nn:its.toArray[i]?=none:=by rw[Array.getElem?_eq_none_iff];simp;omega
  have hT:s.TypeIs (.ref e) "enumerate" := ⟨_,h1,Z⟩;unfold OI;refine J8 (OS (Ml (name:=ND "__next__") hT F.slot_enumerate_next (LV F.slot_enumerate_next hT F.entry_enumerate_next ?_ (F.args_enumerate_next_1 _))))
  show Kz _ _ (field (.ref e) 2 >>= _) _ _ _;refine J8 (QP h1 Z (x:=.ref it) Z ?_);refine J8 (wpAny_nextOf_list_end hh h2 p1.isList nn λh' x he' hx'=>?_);obtain⟨o,ho,hcl⟩:=hx';refine J8 (OL (T := "StopIteration") (b:=true) ⟨o,ho,hcl⟩ QU ?_);refine wpAny_pure ⟨Z,?_⟩;exact rc (t':=s.toks) I (λc o' n q=>he' c o' (λr=>n (by simp[r])) q) hf
 self:=λA i s Q E st h=>by
  obtain⟨⟨old,h1⟩,_⟩:=st;exact RQ h1 h
def EU(K:J5)(ta:TA):TI:=λσ H R=>ta σ H λvs H1=>∃a,vs=[.ref a]/\(∃xs,aO K H1 a xs)/\R (Du K a) H1
theorem we{X:Cx}{elts:List Le}{x1}{tp p pos:NW}{a:Le}{ta:TA}(hg:Gl X "enumerate")(hm:X.mg "enumerate"=none)(ha:PA X [a] ta)(hs:Kr [a] X.env=[(false,eval a X.env)]:=by rfl) :
  PI X (.Tuple elts x1 tp) (.Call (.Name "enumerate" p) [a] [] pos) (EU X.K ta):=by
 intro pins s σ H R I h;refine Call_ (hX I hg hm (show MH "enumerate"=some (.type "enumerate") by kernel_rfl) (Mn (bJ (ha pos pins s σ H _ I h) λus s1 ⟨vs,H1,I1,r1,q1⟩=>?_) hs Z));obtain⟨a,e,⟨xs,hx⟩,q⟩:=q1;subst e;obtain⟨u,rfl,ru⟩:=r1.one
 cases ru
 obtain⟨its,_,p1,_⟩:=I1.list hx;refine call_enumerate_list p1.isList λh' he hi sz kk=>RQ he ?_
 have I2:Inv X pins σ H1 { s1 with heap:=h'}:=I1.kept (t':=s1.toks) kk;refine⟨_,[s1.heap.objs.size+1,s1.heap.objs.size],_,_,H1,rfl,I2,uq (a:=a) (Nat.succ_ne_self _),⟨⟨_,he⟩,hi⟩,λc hc=>?_,q⟩;have le:s1.heap.objs.size≤c:=by
  simp only[Kn,L4,or_false] at hc;rcases hc with h|h
  ·rw[h];exact Nm _
  ·rw[h];exact Kb _
 exact I1.fpOk le (I1.hok.fresh le)
section
variable {prog:KZ}{w:Lk}{A:K3}{E:Value->Ka->Prop}
end
def Jg(K:J5)(n:Nat)(t:ui):TG:=λv σ H Q=>∃a xs,v=.ref a/\aO K H a xs/\xs.length=n/\t xs σ H Q
section
variable {prog:KZ}{w:Lk}{A:K3}{E:Value->Ka->Prop}{s:Ka}
end
def IQ(K:J5):V->Option Int->Option Int->Hp->VK->Prop:=λx lo hi H Q=>∃a xs,x=.ref a/\bH K H a xs/\HT.sIx xs.length 0 lo=0/\HT.sIx xs.length xs.length hi=xs.length/\Q (.ref a) H
end B
namespace B
theorem CM(hb:0<b)(hd:0<d)(e:a*d=c*b):dk a b=dk c d:=by
 have hr:=gB (a:=c) hd;have hc:=lG (a:=c) hd;generalize dk c d=m at hr hc ⊢;refine dG hb hr.pos hr.cop ?_;refine Pj (show d≠0 by omega) ?_;have e1:m.1*b*d=m.1*d*b:=by ac_rfl
 have e2:a*m.2*d=a*d*m.2:=by ac_rfl
 rw[e1,hc,e2,e]
 ac_rfl
structure Bq(D N:Nat)(r:R):Prop where
 pos:0<r.2
 cop:KA r.1 r.2=1
 dvd:r.2∣(D:Int)
 le:r.1.natAbs≤N*r.2.natAbs
theorem Bq.red(h:Bq D N r):eh r:=⟨h.pos,h.cop⟩
theorem se{D N:Nat}{a b:Int}(hb:0<b)(hd:b∣(D:Int))(hl:a.natAbs≤N*b.natAbs):Bq D N (dk a b):=by
 obtain⟨g,x,y,e0,gp,e1,e2,c⟩:=eE (a:=a) hb;have yp:=g8 hb gp e2;have e:dk a b=(x,y):=by
  unfold dk;rw[e0,show a/g=x by rw[e1];exact KS _ (by omega),show b/g=y by rw[e2];exact KS _ (by omega)]
 rw[e];refine⟨yp,c,NU ⟨g,by rw[e2,MK]⟩ hd,?_⟩;rw[e1,e2,Ms,Ms] at hl;have gn:0<g.natAbs:=by omega
 refine Nat.le_of_mul_le_mul_left (c:=g.natAbs) ?_ gn;show g.natAbs*x.natAbs≤g.natAbs*(N*y.natAbs);rw[Nat.mul_left_comm];exact hl
theorem Bq.mono(h:Bq D N r)(hd:D∣D')(hn:N≤N'):Bq D' N' r:=
 ⟨h.pos,h.cop,NU h.dvd (Int.ofNat_dvd.mpr hd),K5 h.le (MQ _ hn)⟩
theorem Bq.plus(hD:0<D)(h:Bq D N r)(k:Bq D M q):Bq D (N+M) (bj r q):=by
 obtain⟨y,ey⟩:=h.dvd;obtain⟨v,ev⟩:=k.dvd;have dp:(0:Int)<(D:Int):=by omega
 have e:bj r q=dk (r.1*y+q.1*v) (D:Int):=by
  unfold bj;refine CM (LJ h.pos k.pos) dp ?_;rw[Int.add_mul,Int.add_mul];have a1:r.1*q.2*(D:Int)=r.1*y*(r.2*q.2):=by rw[ey];ac_rfl
  have a2:q.1*r.2*(D:Int)=q.1*v*(r.2*q.2):=by rw[ev];ac_rfl
  rw[a1,a2]
 rw[e];refine se dp (Int.dvd_refl _) ?_;have b1:(r.1*y).natAbs≤N*D:=by
  have:(D:Int).natAbs=r.2.natAbs*y.natAbs:=by rw[ey,Ms]
  rw[Ms];have z:=MQ y.natAbs h.le;rw[Rh,←this] at z
  simpa using z
 have b2:(q.1*v).natAbs≤M*D:=by
  have:(D:Int).natAbs=q.2.natAbs*v.natAbs:=by rw[ev,Ms]
  rw[Ms];have z:=MQ v.natAbs k.le;rw[Rh,←this] at z
  simpa using z
 have b3:=Int.natAbs_add_le (r.1*y) (q.1*v);have b4:(D:Int).natAbs=D:=Oo D;rw[b4,Nat.add_mul];omega
theorem Bq.neg(h:Bq D N r):Bq D N (-r.1,r.2):=⟨h.pos,by show KA (-r.1) r.2=1;rw[Int.neg_gcd];exact h.cop,h.dvd,by show(-r.1).natAbs≤_;rw[S1];exact h.le⟩
theorem Bq.minus(hD:0<D)(h:Bq D N r)(k:Bq D M q):Bq D (N+M) (eL r q):=by
 rw[←oM];exact h.plus hD k.neg
theorem Bq.times(h:Bq D N r)(k:Bq E M q):Bq (D*E) (N*M) (aJ r q):=by
 refine se (LJ h.pos k.pos) ?_ ?_
 ·rw[NL];exact Int.mul_dvd_mul h.dvd k.dvd
 ·rw[Ms,Ms];have z:=Pk h.le k.le
  calc r.1.natAbs*q.1.natAbs≤N*r.2.natAbs*(M*q.2.natAbs):=z
   _=N*M*(r.2.natAbs*q.2.natAbs):=by ac_rfl
theorem nh(ha:0<a)(hb:0<b):0<(dk a b).1:=Nc ha (Lw (bR hb)) (Sn a b)
theorem Bq.bot(hD:0<D)(h:Bq D N r):r.2.natAbs≤D:=by
 have:=Ng.mpr h.dvd;rw[Oo] at this;exact Ri hD this
theorem Bq.wf(h:Bq D N r)(hD:0<D)(h1:D<2^n)(h2:N*D<2^n):Wf n r:=
 ⟨h.pos,K9 (K5 h.le (Q9 _ (h.bot hD))) h2,K9 (h.bot hD) h1,h.cop⟩
theorem wZ:cy r q=true↔r.1*q.2<q.1*r.2:=by unfold cy;exact decide_eq_true_iff
theorem wY:cy r q=false↔q.1*r.2≤r.1*q.2:=by unfold cy;rw[decide_eq_false_iff_not,Int.not_lt]
end B
namespace B
open PySem PySem.Spec L2 PyProof.Rows
inductive Rl where
 |pow (k:Int)
 |tab (rows:List (R×R))
def qh:R×R:=((0,1),(0,1))
def A9(lo hi:R×R):R:=EB (eL hi.2 lo.2) (eL hi.1 lo.1)
def FC(rows:List (R×R))(k:Nat):R:=A9 (rows.getD k qh) (rows.getD (k+1) qh)
def EA(rows:List (R×R))(s:R):Nat:=rows.countP λr=>cy r.1 s
def Em(rows:List (R×R))(s:R):Nat:=rows.countP λr=>!cy s r.1
def EQ(rows:List (R×R))(s:R):R:=if EA rows s=0 then(0,1) else FC rows (EA rows s-1)
def BE(rows:List (R×R))(s:R):Option R:=if Em rows s<rows.length then some (FC rows (Em rows s-1)) else none
def Es(k:Int)(s:R):R:=aJ (k,1) (Et s (k-1).toNat)
def FD:Rl->R->R×Option R
 | .pow k,s=>(Es k s,some (Es k s))
 | .tab rows,s=>(EQ rows s,BE rows s)
def Jx(rows:List (R×R)):Prop:=rows.Pairwise λa b=>cy a.1 b.1=true
def JG(rows:List (R×R)):Prop:=∀r∈rows,0<r.1.2
abbrev D0:Nat:=5822723907000000000
abbrev N0:Nat:=1000000007
abbrev N1:Nat:=17179869184
abbrev NR:Nat:=11000000077
abbrev N2:Nat:=1180591620717411303424
structure Dm(rows:List (R×R)):Prop where
 n2:2≤rows.length
 n12:rows.length≤12
 inc:Jx rows
 zero:∃y,rows[0]?=some ((0,1),y)
 sp:∀r∈rows,Bq D0 NR r.1
 pw:∀r∈rows,Bq (D0*D0) N2 r.2
def Jq:Rl->Prop
 | .pow k=>2≤k/\k≤4
 | .tab rows=>Dm rows
structure Jn(s:R):Prop where
 bq:Bq (D0*2) N1 s
 nn:0≤s.1
def Io:Rl->R->Prop
 | .pow _,_=>True
 | .tab rows,s=>∃r,rows[rows.length-1]?=some r/\cy r.1 s=false
def JQ(rows:List (R×R))(s:R)(i:Nat):R:=if 0<EA rows s/\EA rows s-1<i then FC rows (EA rows s-1) else(0,1)
def JO(rows:List (R×R))(s:R)(i:Nat):Option R:=if 0<Em rows s/\Em rows s-1<i then some (FC rows (Em rows s-1)) else none
def Hm(k:Int)(s:R)(j:Nat):R:=dk (k*s.1^j) (s.2^j)
def HU(l:R)(r:Option R)(g:R):Bool:=!cy g l&&(match r with|none=>true|some x=>!cy x g)
end B
namespace B
def val(r:R):Rat:=(r.1:Rat)/(r.2:Rat)
theorem cw{b:Int}(h:0<b):(b:Rat)≠0:=λz=>by
 have:b=0:=Oh.mp (by rw[z];rfl);omega
theorem A1{r:R}{a b:Int}(hr:0<r.2)(hb:(b:Rat)≠0)(h:r.1*b=a*r.2):val r=(a:Rat)/(b:Rat):=by
 have h2:(r.1:Rat)*(b:Rat)=(a:Rat)*(r.2:Rat):=by rw[←KL,←KL,h]
 have h1:=cw hr;unfold val;generalize (r.1:Rat)=x at *;generalize (r.2:Rat)=y at *;generalize (a:Rat)=u at *;generalize (b:Rat)=v at *;grind
theorem iO(hb:0<b):val (dk a b)=(a:Rat)/(b:Rat):=A1 (gB hb).pos (cw hb) (lG hb)
theorem fY(hr:0<r.2)(hq:0<q.2):val (bj r q)=val r+val q:=by
 unfold bj;rw[iO (LJ hr hq)];have h1:=cw hr;have h2:=cw hq;unfold val;rw[Oi,KL,KL,KL];generalize (r.1:Rat)=x at *;generalize (r.2:Rat)=y at *;generalize (q.1:Rat)=u at *;generalize (q.2:Rat)=v at *;grind
theorem sQ(hr:0<r.2)(hq:0<q.2):val (eL r q)=val r-val q:=by
 unfold eL;rw[iO (LJ hr hq)];have h1:=cw hr;have h2:=cw hq;unfold val;rw[SH,KL,KL,KL];generalize (r.1:Rat)=x at *;generalize (r.2:Rat)=y at *;generalize (q.1:Rat)=u at *;generalize (q.2:Rat)=v at *;grind
theorem eD(hr:0<r.2)(hq:0<q.2):val (aJ r q)=val r*val q:=by
 unfold aJ;rw[iO (LJ hr hq)];have h1:=cw hr;have h2:=cw hq;unfold val;rw[KL,KL];generalize (r.1:Rat)=x at *;generalize (r.2:Rat)=y at *;generalize (q.1:Rat)=u at *;generalize (q.2:Rat)=v at *;grind
theorem dr(hr:eh r)(hq:eh q)(h:val r=val q):r=q:=by
 have h1:=cw hr.pos;have h2:=cw hq.pos;have e:r.1*q.2=q.1*r.2:=by
  refine Oh.mp ?_;rw[KL,KL];unfold val at h;generalize (r.1:Rat)=x at *;generalize (r.2:Rat)=y at *;generalize (q.1:Rat)=u at *;generalize (q.2:Rat)=v at *;grind
 have e1:dk r.1 r.2=(r.1,r.2):=dG hr.pos hr.pos hr.cop Z;have e2:dk r.1 r.2=(q.1,q.2):=dG hr.pos hq.pos hq.cop e.symm;exact e1.symm.trans e2
theorem bX(hr:0<r.2):val r=0↔r.1=0:=by
 have h1:=cw hr;unfold val;constructor
 ·intro h;refine Oh.mp ?_;show(r.1:Rat)=((0:Int):Rat);rw[show((0:Int):Rat)=0 from Z];generalize (r.1:Rat)=x at *;generalize (r.2:Rat)=y at *;grind
 ·intro h;rw[h];show((0:Int):Rat)/_=0;rw[show((0:Int):Rat)=0 from Z];generalize (r.2:Rat)=y at *;grind
end B
namespace B
def JM(rows:List (R×R))(i:Nat):Rat:=(val (rows.getD (i+1) qh).2-val (rows.getD i qh).2)/(val (rows.getD (i+1) qh).1-val (rows.getD i qh).1)
section
variable {s p:Nat->Rat}{n:Nat}
def sl(s p:Nat->Rat)(i:Nat):Rat:=(p (i+1)-p i)/(s (i+1)-s i)
end
end B
namespace B
open PySem PySem.Spec L2 PyProof.Rows
structure QE(X:Cx)(e:Le)(t:TE):Prop where
 p:PE X e t
structure QT(X:Cx)(e:Le)(t:TT):Prop where
 p:PT X e t
structure QW(X:Cx)(e:Le)(t:TT):Prop where
 p:PW X e t
structure QA(X:Cx)(es:List Le)(t:TA):Prop where
 p:PA X es t
structure QS(X:Cx)(st:Stmt)(t:TS):Prop where
 p:PS X st t
structure dj(X:Cx)(st:List Stmt)(t:TS):Prop where
 p:qT X st t
structure QI(X:Cx)(tg iter:Le)(wi:TI):Prop where
 p:PI X tg iter wi
structure QG(X:Cx)(target:Le)(t:TG):Prop where
 p:PG X target t
structure Fj(X:Cx)(ts:List Le)(t:ui):Prop where
 p:DG X ts t
theorem dj.ok(h:dj X b t)(r:t D σ H):∃t:TS,qT X b t/\t D σ H:=⟨t,h.p,r⟩
structure QO(X:Cx)(o:Option Le)(t:L2.TO):Prop where
 p:PO X o t
section
set_option autoImplicit true
set_option relaxedAutoImplicit true
theorem qv(i:Nat){x:K1}{pos:NW}(hN:X.N[i]?=some x:=by rfl)(hv:Fd X.env.scope x:=by first|exact KW Z|exact KR (KW Z)|exact KR (KR Z))(hd:(x==("__debug__" : K1))=false:=by decide)(hcd:(x==("__classdict__" : K1))=false:=by decide):QE X (.Name x pos) (A3 i):=⟨pv i hN hv hd hcd⟩
theorem ah{i j pos}:QE X (.Constant (.int i) j pos) (tC (.int i)):=⟨Cc ⟩
theorem c8{b j pos}:QE X (.Constant (.bool b) j pos) (tC (.bl b)):=⟨Ez ⟩
theorem vS{j pos}:QE X (.Constant .none j pos) (tC .non):=⟨Ca ⟩
theorem vQ{x j pos}:QE X (.Constant (.str x) j pos) (tC (.str x)):=⟨B7 ⟩
theorem dt{x:K1}{v:V}{u:Value}{pos:NW}(hg:Gl X x)(hm:X.mg x=some u)(r:aY v u)(hd:(x==("__debug__" : K1))=false:=by decide):QE X (.Name x pos) (tC v):=⟨zr hg hm r hd⟩
theorem fO{x:K1}{v:V}{u:Value}{pos:NW}(hg:Gl X x)(hm:X.mg x=none)(hv:MH x=some u)(r:aY v u)(hn:x ≠ "__name__" := by decide)(hd:(x==("__debug__" : K1))=false:=by decide):QE X (.Name x pos) (tC v):=⟨zx hg hm hv r hn hd⟩
theorem lC(ho:FN X (unaryOp op) r)(ha:QE X a ta):QE X (.UnaryOp op a pos) (GV r ta):=⟨Ev ho ha.p⟩
theorem BL(ha:QE X a ta):QE X (.UnaryOp .Not a pos) (Av ta):=⟨B9 ha.p⟩
theorem aD(ho:fJ X (NK op) r)(ha:QE X a ta)(hb:QE X b tb):QE X (.BinOp a op b pos) (yD r ta tb):=⟨Ew ho ha.p hb.p⟩
theorem vR{op}(h:QE X a t):QE X (.BoolOp op [a] pos) t:=⟨B8 h.p⟩
theorem vW{rest:List Le}(ha:QE X a ta)(hb:QE X (.BoolOp .And (b::rest) pos) tb):QE X (.BoolOp .And (a::b::rest) pos) (AC ta tb):=⟨Ce ha.p hb.p⟩
theorem jz(ho:fJ X (LB op) r)(ha:QE X a ta)(hb:QE X b tb)(hm:Nr op b=false):QE X (.Compare a [op] [b] pos) (yD r ta tb):=⟨zu ho ha.p hb.p hm⟩
theorem vV{op op':Su}{r r':R2}(ho:fJ X (LB op) r)(ho':fJ X (LB op') r')(ha:QE X a ta)(hb:QE X b tb)(hc:QE X c tc)(hm:Si [op,op'] [b,c]=false:=by with_unfolding_all rfl):QE X (.Compare a [op,op'] [b,c] pos) (mh r r' ta tb tc):=⟨wD ho ho' ha.p hb.p hc.p hm⟩
theorem bO(h:QA X es t):QE X (.List es pos) (DX t):=⟨Cb h.p⟩
theorem bv{x1}(h:QA X es t):QE X (.Tuple es x1 pos) (DT t):=⟨B6 h.p⟩
theorem im{lo hi:Option Le}{r:V->Option Int->Option Int->Hp->VK->Prop}(hr:FO X r)(he:QE X e te)(hl:QO X lo tl)(hu:QO X hi th):QE X (.Subscript e (.Slice lo hi none p2) pos) (GX r te tl th):=⟨wx hr he.p hl.p hu.p⟩
theorem jx   : QO X none re:=⟨ze ⟩
theorem jw(h:QE X e te):QO X (some e) (Au te):=⟨zd h.p⟩
theorem bG(hr:Dt X r)(ha:QE X a ta)(hb:QE X b tb)(hs:nK b):QE X (.Subscript a b pos) (yD r ta tb):=⟨Ex hr ha.p hb.p hs⟩
theorem gz(F:bu X.prog X.w X.K X.mg X.base CX k f fd ps sp)(hr:cR k X.A)(hg:Gl X x)(hm:X.mg x=some (.ref f))(hk:Mr X.K (.ref f)=true)(hb:aS X.K fd ps ds)(hd:aZ dvs ds)(hx:eQ CX X E)(ha:QA X (e::es) t)(hdb:(x==("__debug__" : K1))=false:=by decide)(he:Kr (e::es) X.env=(false,eval e X.env)::Kr es X.env:=by rfl)(hpl:(MW pos (Kr es X.env)).any (·.1)=false:=by rfl):QE X (.Call (.Name x p) (e::es) [] pos) (uA sp dvs E t):=⟨zw F hr hg hm hk hb hd hx ha.p hdb he hpl⟩
theorem aH{id:String}(hc:cM X (.builtin id) r)(hg:Gl X x)(hm:X.mg x=none)(hv:MH x=some (.builtin id))(ha:QA X (e::es) t)(hn:x ≠ "__name__" := by decide)(hdb:(x==("__debug__" : K1))=false:=by decide)(he:Kr (e::es) X.env=(false,eval e X.env)::Kr es X.env:=by rfl)(hpl:(MW pos (Kr es X.env)).any (·.1)=false:=by rfl):QE X (.Call (.Name x p) (e::es) [] pos) (Fv r t):=⟨wE hc hg hm hv ha.p hn hdb he hpl⟩
theorem cE(hc:cM X (.type T) r)(hg:Gl X x)(hm:X.mg x=none)(hv:MH x=some (.type T))(ha:QA X (e::es) t)(hn:x ≠ "__name__" := by decide)(hdb:(x==("__debug__" : K1))=false:=by decide)(he:Kr (e::es) X.env=(false,eval e X.env)::Kr es X.env:=by rfl)(hpl:(MW pos (Kr es X.env)).any (·.1)=false:=by rfl):QE X (.Call (.Name x p) (e::es) [] pos) (Fv r t):=⟨tI hc hg hm hv ha.p hn hdb he hpl⟩
theorem gQ{id:String}(pa:PlainAttrs T)(slot:Slot T name id)(hty:typeOf (.builtin id)=Mz (.type "method_descriptor"))(hm:GI X id r)(ho:QE X o to)(ha:QA X (e::es) t)(hbase:MJ o name X.env (eval o X.env)=eval o X.env:=by rfl) (hfew:((MW cpos (Kr (e::es) X.env)).all (λx=>!x.1)&&(OU cpos (NA [] X.env)).all (λx=>x.1.isSome)
  &&decide ((e::es).length+([]:List O6).length+(if([]:List O6).isEmpty then 0 else 1)<30))=true:=by rfl) (hline:(apos.endLine==cpos.line)=true:=by rfl) (hs:Kr (e::es) X.env=(false,eval e X.env)::Kr es X.env:=by rfl) (hplain:(MW cpos (Kr es X.env)).any (·.1)=false:=by rfl):QE X (.Call (.Attribute o name apos) (e::es) [] cpos) (G5 X.K T r to t):=⟨Ey pa slot hty hm ho.p ha.p hbase hfew hline hs hplain⟩
theorem af   : QA X [] yE:=⟨Ch ⟩
theorem aa(ha:QE X e te)(hr:QA X es t)(hs:Kr (e::es) X.env=(false,eval e X.env)::Kr es X.env:=by rfl):QA X (e::es) (AA te t):=⟨zF ha.p hr.p hs⟩
theorem aN(ho:fJ X (LB op) r)(ha:QE X a ta)(hb:QE X b tb)(hm:Nr op b=false):QT X (.Compare a [op] [b] pos) (nT (yD r ta tb)):=⟨yY ho ha.p hb.p hm⟩
theorem jX{op op':Su}{r r':R2}(ho:fJ X (LB op) r)(ho':fJ X (LB op') r')(ha:QE X a ta)(hb:QE X b tb)(hc:QE X c tc)(hm:Si [op,op'] [b,c]=false:=by with_unfolding_all rfl):QT X (.Compare a [op,op'] [b,c] pos) (nT (mh r r' ta tb tc)):=⟨vY ho ho' ha.p hb.p hc.p hm⟩
theorem cH{e:Le}{t:TE}(h:QE X e t)(he:∀whole,isTrue e X.env whole=(do let v ←whole;Ql e.pos;holding [v] (truthy v)):=by intro _;rfl):QT X e (tB t):=⟨BP h.p he⟩
theorem cZ(ha:QT X a tA):QT X (.UnaryOp .Not a pos) (DW tA):=⟨BQ ha.p⟩
theorem vK{rest:List Le}(ha:QT X a tA)(hb:QW X (.BoolOp .And (b::rest) pos) tB'):QW X (.BoolOp .And (a::b::rest) pos) (D4 tA tB'):=⟨BO ha.p hb.p⟩
theorem rC(ha:QT X a tA):QW X (.BoolOp .And [a] pos) tA:=⟨yV ha.p⟩
theorem ik{rest:List Le}(ha:QT X a tA)(hb:QW X (.BoolOp .Or (b::rest) pos) tB'):QW X (.BoolOp .Or (a::b::rest) pos) (G0 tA tB'):=⟨En ha.p hb.p⟩
theorem ge(ha:QT X a tA):QW X (.BoolOp .Or [a] pos) tA:=⟨BN ha.p⟩
theorem gP(h:QW X e t):QT X e t:=⟨PW.pt h.p⟩
theorem BI{i:Nat}{x:K1}{e:Le}{te:TE}{pos':NW}(hN:X.N.Nodup)(hi:X.N[i]?=some x)(hx:yq X.env.scope x)(he:QE X e te)(hs:NQ e (some (.Name x pos')) pos.line X.env=Mz false:=by rfl)(hf:X.fn x=true∨X.env.scope.names.lookup x=some .local:=by first|exact .inl Z|exact .inr Z|assumption):QS X (.Assign [.Name x pos'] e pos) (pT te (ko i)):=⟨BS hN hi hx he.p hs hf⟩
theorem vM{i j:Nat}{x y:K1}{a b:Le}{ta:TA}{px py pt:NW}{kt k2 pt2}(hc:X.calm=true)(hN:X.N.Nodup)(hi:X.N[i]?=some x)(hj:X.N[j]?=some y)(hij:i≠j)(hx:X.env.scope.names.lookup x=some .local)(hy:X.env.scope.names.lookup y=some .local)(ha:QA X [a,b] ta)(hw:PQ [.Tuple [.Name x px,.Name y py] kt pt] (.Tuple [a,b] k2 pt2) X.env=Mz (some [x,y]))(hs:PP [.Tuple [.Name x px,.Name y py] kt pt] (.Tuple [a,b] k2 pt2) pos.line X.env=Mz false:=by rfl):QS X (.Assign [.Tuple [.Name x px,.Name y py] kt pt] (.Tuple [a,b] k2 pt2) pos) (DV i j ta):=⟨BU hc hN hi hj hij hx hy ha.p hw hs⟩
theorem mW{tg e:Le}{te:TE}{g:TG}(he:QE X e te)(hg:QG X tg g)(hs:PP [tg] e pos.line X.env=Mz false:=by rfl)(hw:PQ [tg] e X.env=Mz none:=by rfl)(h1:(Mq [tg] X.env).map (·.2)=[PM tg X.env]:=by rfl):QS X (.Assign [tg] e pos) (pT te g):=⟨BY he.p hg.p hs hw h1⟩
theorem BJ{i:Nat}{x:K1}{e:Le}{te:TE}{op:QL}{ti:AX}{pos':NW}(hN:X.N.Nodup)(hi:X.N[i]?=some x)(hx:yq X.env.scope x)(he:QE X e te)(ho:DF X op ti)(hf:X.fn x=true∨X.env.scope.names.lookup x=some .local:=by first|exact .inl Z|exact .inr Z|assumption):QS X (.AugAssign (.Name x pos') op e pos) (D1 i te ti):=⟨BX hN hi hx he.p ho hf⟩
theorem bF(hc:QT X c tc)(ha:dj X a t)(hb:dj X b u):QS X (.If c a b pos) (DY tc t u):=⟨Ep hc.p ha.p hb.p⟩
theorem fE(hp:Lh (KF X.prog X.w) X.A X.env X.xe)(hc:QT X c tc)(hb:dj X body tb):QS X (.While c body [] pos) (uw tc tb):=⟨v1 hp hc.p hb.p⟩
theorem bT{iter:Le}{body:List Stmt}{wi:TI}{g:TG}{tb:TS}{pos:NW}(hp:Lh (KF X.prog X.w) X.A X.env X.xe)(hc:X.calm=true)(hi:QI X tg iter wi)(hg:QG X tg g)(hb:dj X body tb)(hs:∀x,Nl iter X.env x=Mz x:=by intro _;rfl):QS X (.For tg iter body [] pos) (DZ wi g tb):=⟨BV hp hc hi.p hg.p hb.p hs⟩
theorem aM(he:QE X e te):QS X (.Return (some e) pos) (DU te):=⟨BT he.p⟩
theorem da(he:QE X e te)(hs:NQ e none pos.line X.env=Mz false:=by rfl):QS X (.Expr e pos) (Ay te):=⟨za he.p hs⟩
theorem jY{st:Stmt}  : QS X st ux:=⟨v2 ⟩
theorem aX   : dj X [] Aw:=⟨y3 ⟩
theorem aj{st:Stmt}(h1:QS X st t):dj X [st] t:=⟨yZ h1.p⟩
theorem vL{st:Stmt}{rest:List Stmt}(h1:QS X st t)(h2:dj X rest u):dj X (st::rest) (A4 t u):=⟨vZ h1.p h2.p⟩
theorem bW{a:Le}{ta:TA}{p pos:NW}(hg:Gl X "range")(hm:X.mg "range"=none)(ha:QA X [a] ta)(hs:Kr [a] X.env=[(false,eval a X.env)]:=by rfl):QI X tg (.Call (.Name "range" p) [a] [] pos) (AR ta):=⟨tH hg hm ha.p hs⟩
theorem gy{a b:Le}{ta:TA}{p pos:NW}(hg:Gl X "range")(hm:X.mg "range"=none)(ha:QA X [a,b] ta)(hs:Kr [a,b] X.env=[(false,eval a X.env),(false,eval b X.env)]:=by rfl)(hs2:Kr [b] X.env=[(false,eval b X.env)]:=by rfl):QI X tg (.Call (.Name "range" p) [a,b] [] pos) (AQ ta):=⟨tG hg hm ha.p hs hs2⟩
theorem cm(hl:QE X l tl):QI X tg l (AS X.K tl):=⟨zh hl.p⟩
theorem db(hl:QE X l tl):QI X tg l (ES X.K tl):=⟨B2 hl.p⟩
theorem aA{i:Nat}{x:K1}(hN:X.N.Nodup)(hi:X.N[i]?=some x)(hx:yq X.env.scope x)(hf:X.fn x=true∨X.env.scope.names.lookup x=some .local:=by first|exact .inl Z|exact .inr Z|assumption):QG X (.Name x pos) (ko i):=⟨zk hN hi hx hf⟩
theorem j0{es:List Le}{k:Nat}{t:ui}{n:Nat}(hc:X.calm=true)(h:Fj X es t)(hn:(Mq es X.env).length=n:=by rfl)(hst:(Mq es X.env).findIdx? (·.1)=none:=by rfl):QG X (.Tuple es k pos) (zZ X.K n t):=⟨wm hc h.p hn hst⟩
theorem vP{o i:Le}{to ti:TE}{t:qR}(ho:QE X o to)(hi:QE X i ti)(hs:yn X t) (ha:∀v,PM (.Subscript o i pos) X.env v=(do
   let ov ←holding [v] (eval o X.env);let iv ←holding [v,ov] (eval i X.env)
   Ql pos
   holding [v,ov,iv] (RA ov iv v)
   Tu [v,ov,iv] []):=by intro _;rfl):QG X (.Subscript o i pos) (EX to ti t):=⟨B4 ho.p hi.p hs ha⟩
theorem dY   : Fj X [] EY:=⟨zi ⟩
theorem bB{e:Le}{es:List Le}{t:TG}{u:ui}(h1:QG X e t)(h2:Fj X es u)(hs:(Mq (e::es) X.env).map (·.2)=PM e X.env::(Mq es X.env).map (·.2):=by rfl):Fj X (e::es) (AU t u):=⟨wj h1.p h2.p hs⟩
end
structure FQ(X:Cx)(ifs:List Le)(t:TT):Prop where
 p:DE X ifs t
section
set_option autoImplicit true
set_option relaxedAutoImplicit true
theorem ck:FQ X [] DS:=⟨yX ⟩
theorem cX(h:QT X c t):FQ X [c] t:=⟨yW h.p⟩
theorem bc(hc:X.calm=true)(hi:QI X tg iter wi)(hg:∀C fp pins s H,QG (jF X N' scope cl C fp pins s H) tg g)(ht:∀C fp pins s H,FQ (jF X N' scope cl C fp pins s H) ifs tt)(he:∀C fp pins s H,QE (jF X N' scope cl C fp pins s H) elt te)(hfree:cT X scope cl N' src)(hclos:Rt scope X.env=Mz cl)(hcell:∀x∈scope.names,x.2≠.cell)(hkind:scope.kind=.function)(hnames:∀x∈scope.names,x.2=.local->scope.names.lookup x.1=some .local)(hcl:ff X scope cl)(hs:∀x,Nl iter X.env x=Mz x:=by intro _;rfl):QE X (.ListComp elt [⟨tg,iter,ifs,0⟩] scope pos) (nU wi src g tt te):=⟨wz hc hi.p (λz0 z1 z2 z3 z4=>(hg z0 z1 z2 z3 z4).p) (λz0 z1 z2 z3 z4=>(ht z0 z1 z2 z3 z4).p) (λz0 z1 z2 z3 z4=>(he z0 z1 z2 z3 z4).p) hfree hclos hcell hkind hnames hcl hs⟩
theorem mV{i:Nat}{x:K1}{pos' pos2:NW}(hN:X.N.Nodup)(hi':X.N[i]?=some x)(hx:yq X.env.scope x)(hc:X.calm=true)(hi:QI X tg iter wi)(hg:∀C fp pins s H,QG (jF X N' scope cl C fp pins s H) tg g)(ht:∀C fp pins s H,FQ (jF X N' scope cl C fp pins s H) ifs tt)(he:∀C fp pins s H,QE (jF X N' scope cl C fp pins s H) elt te)(hfree:cT X scope cl N' src)(hclos:Rt scope X.env=Mz cl)(hcell:∀x∈scope.names,x.2≠.cell)(hkind:scope.kind=.function)(hnames:∀x∈scope.names,x.2=.local->scope.names.lookup x.1=some .local)(hcl:ff X scope cl)(hs:∀x,Nl iter X.env x=Mz x:=by intro _;rfl)(hsw:NQ (.ListComp elt [⟨tg,iter,ifs,0⟩] scope pos) (some (.Name x pos')) pos2.line X.env=Mz true:=by rfl)(hf:X.fn x=true∨X.env.scope.names.lookup x=some .local:=by first|exact .inl Z|exact .inr Z|assumption):QS X (.Assign [.Name x pos'] (.ListComp elt [⟨tg,iter,ifs,0⟩] scope pos) pos2) (pT (nU wi src g tt te) (ko i)):=⟨y9 hN hi' hx hc hi.p (λz0 z1 z2 z3 z4=>(hg z0 z1 z2 z3 z4).p) (λz0 z1 z2 z3 z4=>(ht z0 z1 z2 z3 z4).p) (λz0 z1 z2 z3 z4=>(he z0 z1 z2 z3 z4).p) hfree hclos hcell hkind hnames hcl hs hsw hf⟩
end
section
variable {X:Cx}{K:J5}
theorem zj{es:List Le}{k:Nat}{t:ui}{n:Nat}{pos:NW}(hK:X.K=K)(hc:X.calm=true)(h:DG X es t)
  (hn:(Mq es X.env).length=n:=by rfl) (hst:(Mq es X.env).findIdx? (·.1)=none:=by rfl):PG X (.Tuple es k pos) (zZ K n t):=hK▸wm hc h hn hst
theorem cI(hK:X.K=K):Dt X (BG K):=hK▸ay
theorem cL(hK:X.K=K):Dt X (BH K):=hK▸ba
def IX(K:J5):List V->Hp->VK->Prop:=λxs H Q=>∃p ys,xs=[.ref p]/\(aO K H p ys∨bH K H p ys)/\Q (.int ys.length) H
end
theorem aR:Kr (.BinOp a op b pos:: es) env=(false,eval (.BinOp a op b pos) env):: Kr es env:=Z
end B
namespace B
open PySem
section
variable {es:List Le}{env:SK}
theorem bQ{a b c}:Kr (.Tuple a b c::es) env=(false,eval (.Tuple a b c) env)::Kr es env:=Z
theorem uF{a b}:Kr (.List a b::es) env=(false,eval (.List a b) env)::Kr es env:=Z
theorem aQ{a b c}:Kr (.Subscript a b c::es) env=(false,eval (.Subscript a b c) env)::Kr es env:=Z
theorem aK{a b c d}:Kr (.Call a b c d::es) env=(false,eval (.Call a b c d) env)::Kr es env:=Z
theorem ac{a b}:Kr (.Name a b::es) env=(false,eval (.Name a b) env)::Kr es env:=Z
theorem aG{a b c}:Kr (.Constant a b c::es) env=(false,eval (.Constant a b c) env)::Kr es env:=Z
theorem yG{a b c}:Kr (.UnaryOp a b c::es) env=(false,eval (.UnaryOp a b c) env)::Kr es env:=Z
theorem fB{a b c}:Kr (.Attribute a b c::es) env=(false,eval (.Attribute a b c) env)::Kr es env:=Z
theorem cW{a b c d}:Kr (.ListComp a b c d::es) env=(false,eval (.ListComp a b c d) env)::Kr es env:=Z
end
end B
namespace B
open PySem L2 PyProof.Rows
inductive cK{α:Type}(P:V->α->Prop):List V->List α->Prop where
 |nil:cK P [] []
 |cons {x:V} {d:α} {xs:List V} {ds:List α} (h:P x d) (t:cK P xs ds):cK P (x::xs) (d::ds)
theorem cK.len{α:Type}{P:V->α->Prop}:∀{xs:List V} {ds:List α},cK P xs ds->xs.length=ds.length
 |_,_,.nil=>rfl
 |_,_,.cons _ t=>congrArg (·+1) t.len
theorem cK.mono{α:Type}{P P':V->α->Prop}(m:∀v d,P v d->P' v d):∀{xs:List V} {ds:List α},cK P xs ds->cK P' xs ds
 |_,_,.nil=>.nil
 |_,_,.cons h t=>.cons (m _ _ h) (t.mono m)
theorem cK.snoc{α:Type}{P:V->α->Prop}{x:V}{d:α}(k:P x d):∀{xs:List V} {ds:List α},cK P xs ds->cK P (xs++[x]) (ds++[d])
 |_,_,.nil=>.cons k .nil
 |_,_,.cons h t=>.cons h (t.snoc k)
theorem cK.at{α:Type}{P:V->α->Prop}:∀{xs:List V} {ds:List α},cK P xs ds->∀{i:Nat} {x:V},xs[i]?=some x->∃d,ds[i]?=some d/\P x d
 |_,_,.cons h _,0,x,e=>by
  rw[Ov] at e
  cases e
  exact⟨_,Z,h⟩
 |_,_,.cons _ t,i+1,x,e=>t.at (i:=i) (by rw[Ow] at e;exact e)
 |_,_,.nil,_,_,e=>by cases e
theorem cK.deep{α:Type}{K:J5}{H:Hp}{P:V->α->Prop}{f:α->Kv}(m:∀v d,P v d->bS K H v (f d)):∀{xs:List V} {ds:List α},cK P xs ds->be K H xs (ds.map f)
 |_,_,.nil=>.nil
 |_,_,.cons h t=>.cons (m _ _ h) (t.deep m)
end B
namespace B
open PySem PySem.Spec L2 PyProof.Rows
theorem o1(h:1≤xs.length):ky xs (some 1) none=xs.drop 1:=by
 unfold ky;rw[show(some (1:Int))=some (((1:Nat):Int)) from Z,HT.sIx_nat,HT.sIx_none,SI h];exact NF (by rw[OK];omega)
section
set_option autoImplicit true
set_option relaxedAutoImplicit true
theorem BK(hl:QE X l tl):QI X tg l (ET X.K tl):=⟨B3 hl.p⟩
theorem jy{K:J5}{es:List Le}{k:Nat}{t:ui}{n:Nat}{pos:NW}(hK:X.K=K)(hc:X.calm=true)(h:Fj X es t)(hn:(Mq es X.env).length=n:=by rfl)(hst:(Mq es X.env).findIdx? (·.1)=none:=by rfl):QG X (.Tuple es k pos) (zZ K n t):=⟨zj hK hc h.p hn hst⟩
end
def Gi(K:J5):R2:=λx y H Q=>∃d d',bS K H x d/\bS K H y d'/\d.canLay0=true/\d'.canLay0=true/\d.depth≤32/\Q (.bl (LD d d')) H
theorem wG(hr:cR k X.A):fJ X (LB .Eq) (Gi X.K):=by
 intro pins s σ H x y v u Q I rx ry h;obtain⟨d,d',hd,hd',c,c',dp,q⟩:=h;obtain⟨as,ra⟩:=bS.reads I hd rx;obtain⟨bs,rb⟩:=bS.reads I hd' ry;exact SeqAt.compareEq_reads ra rb c c' (by have:=hr.units;omega) ⟨.bl _,H,I,Z,q⟩
theorem iz:LD (dR r) (dR q)=decide (r=q):=by
 by_cases h:r=q
 ·rw[decide_eq_true h,h];exact xG q
 ·rw[decide_eq_false h]
  cases c:LD (dR r) (dR q) with
  |false=>rfl
  |true=>exact absurd (C3 c) h
def Ek(K:J5):List V->Hp->VK->Prop:=λxs H Q=>∃a ys n b,xs=[.ref a,.ty n]/\bH K H a ys/\ja "tuple" n=some b/\Q (.bl b) H
theorem ug:cM X (.builtin "isinstance") (Ek X.K):=by
 intro pins s σ H xs us Q I r h;obtain⟨a,ys,n,b,rfl,hS,e,q⟩:=h;obtain⟨u,u2,rfl,rx,ry⟩:=qX r;obtain rfl:u2=Mp n:=ry
 cases(show u=K7 a from rx)
 obtain⟨its,_,⟨o,h1,h2,_⟩,_⟩:=I.tuple hS;exact LK Rp I.kIn ⟨o,h1,h2⟩ (qx e) (λz=>nomatch z) λtk=>⟨.bl b,H,I.tok tk,Z,q⟩
section
set_option autoImplicit true
set_option relaxedAutoImplicit true
end
end B
namespace L2
open PySem PySem.Spec PyProof.Rows
section
variable {κ:Type} [DecidableEq κ]
def dX(kvs:List (κ×V))(k:κ):Option V:=(kvs.find? λkv=>decide (kv.1=k)).map (·.2)
def dZ(kvs:List (κ×V))(k:κ)(v:V):List (κ×V):=
 if(kvs.any λkv=>decide (kv.1=k))=true then kvs.map (λkv=>if kv.1=k then(kv.1,v) else kv) else kvs++[(k,v)]
def HL(kvs:List (κ×V))(k:κ):List (κ×V):=kvs.filter λkv=>decide (kv.1≠k)
theorem dD{p:κ×V}{r:List (κ×V)}{k:κ}(e:p.1=k):dX (p::r) k=some p.2:=by simp[dX,NM,e]
theorem dE{p:κ×V}{r:List (κ×V)}{k:κ}(e:¬p.1=k):dX (p::r) k=dX r k:=by simp[dX,NM,e]
theorem jI(k:κ):∀kvs:List (κ×V),(kvs.any λkv=>decide (kv.1=k))=(dX kvs k).isSome
 | []=>rfl
 |p::r=>by
  rw[NS];by_cases e:p.1=k
  ·simp only[dD e,decide_eq_true e,Bool.true_or,Option.isSome_some]
  ·rw[dE e,decide_eq_false e,Rg];exact jI k r
theorem i8(kvs:List (κ×V))(k:κ)(v:V):(dZ kvs k v).length≤kvs.length+1:=by
 unfold dZ
 split
 ·rw[J7];omega
 ·rw[Ko,Lb,NN];omega
theorem oA{kvs:List (κ×V)}{k:κ}(v:V)(h:dX kvs k=none):dZ kvs k v=kvs++[(k,v)]:=by
 unfold dZ;rw[jI,h];exact if_neg (by decide)
theorem fT.isSome_eq(r:fT o u):o.isSome=u.isSome:=by
 cases o with
 |none=>cases u with
  |none=>rfl
  |some _=>exact(show False from r).elim
 |some _=>cases u with
  |none=>exact(show False from r).elim
  |some _=>rfl
theorem fT.getD(r:fT o u)(rd:aY d d'):aY (o.getD d) (u.getD d'):=by
 cases o with
 |none=>cases u with
  |none=>exact rd
  |some _=>exact(show False from r).elim
 |some _=>cases u with
  |none=>exact(show False from r).elim
  |some _=>exact r
theorem KV.val{kvs:List (κ×V)}{vs:List (κ×Value)}(r:KV kvs vs)(k:κ):fT (dX kvs k) (Q4 vs k):=by
 unfold KV at r
 induction r with
 |nil=>exact MB
 | @cons p q ps qs h t ih=>
  obtain⟨h1,h2⟩:=h;by_cases e:p.1=k
  ·have e':q.1=k:=h1.symm.trans e;have b:Q4 (q::qs) k=some q.2:=by simp[Q4,NM,e']
   rw[dD e,b];exact h2
  ·have e':¬q.1=k:=λz=>e (h1.trans z)
   have b:Q4 (q::qs) k=Q4 qs k:=by simp[Q4,NM,e']
   rw[dE e,b];exact ih
theorem KV.any{kvs:List (κ×V)}{vs:List (κ×Value)}(r:KV kvs vs)(k:κ):(kvs.any λkv=>decide (kv.1=k))=vs.any λkv=>decide (kv.1=k):=by
 unfold KV at r
 induction r with
 |nil=>rfl
 |cons h t ih=>rw[NS,NS,ih,h.1]
theorem KV.repl{kvs:List (κ×V)}{vs:List (κ×Value)}(r:KV kvs vs)(k:κ){y:V}{u:Value}(ry:aY y u) :
  KV (kvs.map λkv=>if kv.1=k then(kv.1,y) else kv) (vs.map λkv=>if kv.1=k then(kv.1,u) else kv):=by
 unfold KV at r ⊢
 induction r with
 |nil=>exact .nil
 | @cons p q ps qs h t ih=>
  rw[KH,KH];refine .cons ?_ ih;obtain⟨h1,h2⟩:=h;by_cases e:p.1=k
  ·rw[if_pos e,if_pos (h1.symm.trans e)];exact⟨h1,ry⟩
  ·rw[if_neg e,if_neg (λz=>e (h1.trans z))];exact⟨h1,h2⟩
theorem KV.put{kvs:List (κ×V)}{vs:List (κ×Value)}(r:KV kvs vs)(k:κ){y:V}{u:Value}(ry:aY y u):KV (dZ kvs k y) (stored vs k u):=by
 unfold dZ stored;rw[r.any k];by_cases e:(vs.any λkv=>decide (kv.1=k))=true
 ·rw[if_pos e,if_pos e];exact r.repl k ry
 ·rw[if_neg e,if_neg e];exact Paired.snoc r ⟨Z,ry⟩
theorem KV.length{kvs:List (κ×V)}{vs:List (κ×Value)}(r:KV kvs vs):kvs.length=vs.length:=Paired.length r
end
theorem oO(r:aY (kV k) u):(bD P w).is k u=true:=by
 cases k with
 |inl i=>obtain⟨t,e⟩:=(show ∃t,u=Mf i t from r);subst e;exact oK P w i t
 |inr x=>obtain⟨t,e⟩:=(show ∃t,u=P0 x t from r);subst e;exact oJ P w x t
theorem lH{P:KZ}{w:Lk}:∀{ks:List cv} {us:List Value},aZ (ks.map kV) us->ItemsAre (bD P w) ks us
 | [],_,r=>by rw[OE] at r;cases r;exact .nil
 |k::ks,_,r=>by
  rw[KH] at r
  cases r with
  |cons h t=>exact .cons (oO h) (lH t)
abbrev KT(H:Hp):List (List cv×V)->List (List cv×Addr×Value)->Prop:=Paired λp q=>p.1=q.1/\H q.2.1=some (.tup (p.1.map kV))/\aY p.2 q.2.2
theorem KT.val(r:KT H kvs xs)(k:List cv):fT (dX kvs k) ((Sz xs k).map (·.2)):=by
 induction r with
 |nil=>exact MB
 | @cons p q ps qs h t ih=>
  obtain⟨h1,_,h2⟩:=h;by_cases e:p.1=k
  ·have e':q.1=k:=h1.symm.trans e;have b:Sz (q::qs) k=some q.2:=by simp[Sz,NM,e']
   rw[dD e,b];exact h2
  ·have e':¬q.1=k:=λz=>e (h1.trans z)
   have b:Sz (q::qs) k=Sz qs k:=by simp[Sz,NM,e']
   rw[dE e,b];exact ih
theorem KT.repl(r:KT H kvs xs)(k:List cv)(ry:aY y u):
  KT H (kvs.map λkv=>if kv.1=k then(kv.1,y) else kv) (xs.map (putAt k u)):=by
 induction r with
 |nil=>exact .nil
 | @cons p q ps qs h t ih=>
  rw[KH,KH];refine .cons ?_ ih;obtain⟨h1,h2,h3⟩:=h;unfold putAt;by_cases e:p.1=k
  ·rw[if_pos e,if_pos (h1.symm.trans e)];exact⟨h1,h2,ry⟩
  ·rw[if_neg e,if_neg (λz=>e (h1.trans z))];exact⟨h1,h2,h3⟩
theorem KT.put(r:KT H kvs xs)(k:List cv)(hb:H b=some (.tup (k.map kV)))(ry:aY y u):
  KT H (dZ kvs k y) (storedH xs k b u):=by
 have e:(kvs.any λkv=>decide (kv.1=k))=(Sz xs k).isSome:=by
  rw[jI,(r.val k).isSome_eq,RS]
 unfold dZ storedH;rw[e];by_cases q:(Sz xs k).isSome=true
 ·rw[if_pos q,if_pos q];exact r.repl k ry
 ·rw[if_neg q,if_neg q];exact Paired.snoc r ⟨Z,hb,ry⟩
theorem KT.keeps(r:KT H kvs xs)(ht:∀b ys,H b=some (.tup ys)->H' b=some (.tup ys)):KT H' kvs xs:=
 Paired.mapP r λ_ _ z=>⟨z.1,ht _ _ z.2.1,z.2.2⟩
section
variable {P:KZ}{w:Lk}{H:Hp}{h:Kp}{a:Addr}
theorem AH(ok:gS P w H h)(e:Rd H a u):bo P w H h a u:=e.ok ok
theorem ku(ok:gS P w H h)(e:Rd H a (.dK kvs)):kvs.length≤sizeLine/\(a==NB)=false/\∃vs,KV kvs vs/\h.DictOf (bD P w) a vs:=
 show bo P w H h a (.dK kvs) from AH ok e
theorem xO(ok:gS P w H h)(e:H a=some (.dK kvs)):kvs.length≤sizeLine/\(a==NB)=false/\∃vs,KV kvs vs/\h.DictOf (bD P w) a vs:=ku ok (.inl e)
theorem ki(ok:gS P w H h)(e:H a=some (.tup (ks.map kV))):(P1 (bD P w)).is h ks a:=by
 obtain⟨_,its,r,o,h1,h2,n,h3⟩:=(show bo P w H h a (.tup (ks.map kV)) from ok a _ e);exact⟨o,its.toArray,n,h1,h2,h3,by simpa using lH r⟩
theorem lK(ok:gS P w H h)(e:Rd H a (.dT kvs)):kvs.length≤sizeLine/\(a==NB)=false∧
  ∃xs,KT H kvs xs/\h.DictOfH (P1 (bD P w)) a xs:=by
 obtain⟨z,y,xs,r,o,es,ep,h1,h2,h3,h4,h5⟩:=(show bo P w H h a (.dT kvs) from AH ok e);refine⟨z,y,xs,r,o,es,ep,h1,h2,h3,h4,λx hx=>?_,h5⟩;have all:∀{l:List (List cv×V)} {m:List (List cv×Addr×Value)},KT H l m->∀x∈m,(P1 (bD P w)).is h x.1 x.2.1:=by
  intro l m q
  induction q with
  |nil=>intro x hx;exact nomatch hx
  | @cons p q ps qs hq t ih=>
   intro x hx;rcases Kn.mp hx with e|hx
   ·subst e;exact ki ok (by rw[←hq.1];exact hq.2.1)
   ·exact ih x hx
 exact all r x hx
theorem E3(ok:gS P w H h)(e:H a=some (.dT kvs)):kvs.length≤sizeLine/\(a==NB)=false∧
  ∃xs,KT H kvs xs/\h.DictOfH (P1 (bD P w)) a xs:=lK ok (.inl e)
end
def ib(H:Hp)(a:Addr)(y:V)(r:Option V):Prop:=
 (∃kvs k,Rd H a (.dK kvs)/\y=kV k/\r=dX kvs k)∨∃kvs k b,Rd H a (.dT kvs)/\y=.ref b/\H b=some (.tup (k.map kV))/\r=dX kvs k
def kW(H:Hp)(a:Addr)(y v:V)(H':Hp):Prop:=
 (∃kvs k,H a=some (.dK kvs)/\y=kV k/\kvs.length<sizeLine/\H'=av H a (.dK (dZ kvs k v)))∨
 ∃kvs k b,H a=some (.dT kvs)/\y=.ref b/\H b=some (.tup (k.map kV))/\kvs.length<sizeLine/\H'=av H a (.dT (dZ kvs k v))
theorem ib.k{H:Hp}{a:Addr}{kvs:List (cv×V)}{k:cv}(e:H a=some (.dK kvs)):ib H a (kV k) (dX kvs k):=.inl ⟨kvs,k,.inl e,Z,Z⟩
theorem kW.k{H:Hp}{a:Addr}{kvs:List (cv×V)}{k:cv}{v:V}(e:H a=some (.dK kvs))(hl:kvs.length<sizeLine):kW H a (kV k) v (av H a (.dK (dZ kvs k v))):=.inl ⟨kvs,k,e,Z,hl,Z⟩
section
variable {X:Cx}{pins:List (Addr×LY)}{σ:St}{H:Hp}{s:Ka}{a:Addr}{y v:V}{u r:Value}{o:Option V}{A:K3}{E:Value->Ka->Prop}
theorem Inv.big(I:Inv X pins σ H s):NB<s.heap.objs.size:=by
 have h:KO<s.heap.objs.size:=(I.mod.glob.keeps I.bk).lt;exact N8 (by decide) h
theorem tZ(hu:A.units+1<cLine)(I:Inv X pins σ H s)(g:ib H a y (some v))(ry:aY y u)(h:∀w' s',Inv X pins σ H s'->aY v w'->Q w' s'):
  Kz (KF X.prog X.w) A (O4 (.ref a) u) Q E s:=by
 rcases g with⟨kvs,k,e,ey,l⟩ | ⟨kvs,k,b,e,ey,eb,l⟩
 ·subst ey;obtain⟨z,hd,vs,rel,dd⟩:=ku I.hok e;obtain⟨w',hw,rw'⟩:=fT.some_of (v:=v) (o:=Q4 vs k) (by rw[l];exact rel.val k);exact wpAny_getItem_of (oO ry) dd.mapOf hw (h w' _ (I.tok _) rw')
 ·subst ey
  cases(show u=K7 b from ry)
  obtain⟨z,hd,xs,rel,dd⟩:=lK I.hok e;obtain⟨w',hw,rw'⟩:=fT.some_of (v:=v) (o:=(Sz xs k).map (·.2)) (by rw[l];exact rel.val k);obtain⟨p,hp,hp2⟩:=LR.mp hw;refine wpAny_getItem_heap (Op hu) (ki I.hok eb) dd hp ?_;rw[hp2];exact h w' _ (I.tok _) rw'
theorem Aa(hu:A.units+1<cLine)(I:Inv X pins σ H s)(g:ib H a y o)(ry:aY y u)(h:∀s',Inv X pins σ H s'->Q (.bool (!o.isSome)) s'):
  Kz (KF X.prog X.w) A (LB .NotIn u (.ref a)) Q E s:=by
 rcases g with⟨kvs,k,e,ey,l⟩ | ⟨kvs,k,b,e,ey,eb,l⟩
 ·subst ey;obtain⟨z,hd,vs,rel,dd⟩:=ku I.hok e;refine wpAny_notIn_of (oO ry) hd dd.mapOf ?_;rw[←(rel.val k).isSome_eq,←l];exact h _ (I.tok _)
 ·subst ey
  cases(show u=K7 b from ry)
  obtain⟨z,hd,xs,rel,dd⟩:=lK I.hok e;refine wpAny_notIn_heap (Op hu) (ki I.hok eb) hd dd ?_;have q:=(rel.val k).isSome_eq;rw[RS] at q;rw[←q,←l];exact h _ (I.tok _)
theorem jE(I:Inv X pins σ H s)(mu:Fl (H a))(hs:LH a s.heap h')(he:∃q,h'.get? a=some q)(new:bo X.prog X.w (av H a ob) h' a ob):
  Inv X pins σ (av H a ob) { s with heap:=h',toks:=t'}:=
 I.write (x:=a) (e:=a) mu (.inl Z) (λb q hb z=>(hs.2 b hb).trans z) he new
theorem C9(z:kvs.length≤sizeLine)(hd:(a==NB)=false)(rel:KV kvs vs)(dd:h'.DictOf (bD P w) a vs):
  bo P w H' h' a (.dK kvs):=⟨z,hd,vs,rel,dd⟩
theorem tY(hu:A.units+1<cLine)(I:Inv X pins σ H s)(g:kW H a y v H')(ry:aY y u)(rv:aY v r)(h:∀s',Inv X pins σ H' s'->Q () s'):
  Kz (KF X.prog X.w) A (RA (.ref a) u r) Q E s:=by
 rcases g with⟨kvs,k,e,ey,l,eH⟩ | ⟨kvs,k,b,e,ey,eb,l,eH⟩
 ·subst ey eH;obtain⟨z,hd,vs,rel,dd⟩:=xO I.hok e;have hz:vs.length≤sizeLine:=by rw[←rel.length];exact z
  have hl:(dZ kvs k v).length≤sizeLine:=by have:=i8 kvs k v;omega
  refine wpAny_setItem_pairs (hsz:=hz) (oO ry) dd λh' dd' hs=>h _ ?_
  have he:∃q,h'.get? a=some q:=let ⟨q,_,_,hq,_⟩:=dd';⟨q,hq⟩;exact jE I (by rw[e];exact MB) hs he (C9 hl hd (rel.put k rv) dd')
 ·subst ey eH
  cases(show u=K7 b from ry)
  obtain⟨z,hd,xs,rel,dd⟩:=E3 I.hok e;have hz:xs.length≤sizeLine:=by rw[←Paired.length rel];exact z
  have hl:(dZ kvs k v).length≤sizeLine:=by have:=i8 kvs k v;omega
  refine wpAny_setItem_heap (hsz:=hz) (Op hu) (ki I.hok eb) dd λh' dd' hs=>h _ ?_
  obtain⟨q,es,ep,hq,h2,h3,h4,_,h5⟩:=dd';refine jE I (by rw[e];exact MB) hs ⟨q,hq⟩ ⟨hl,hd,_,(rel.put k eb rv).keeps λc ys ec=>?_,q,es,ep,hq,h2,h3,h4,h5⟩;rw[ak (EM ec e (λz=>nomatch z))];exact ec
end
section
variable {X:Cx}{pins:List (Addr×LY)}{σ:St}{H:Hp}{s:Ka}{a:Addr}{kvs:List (cv×V)}{k:cv}{u:Value}{A:K3}{E:Value->Ka->Prop}
theorem E5(I:Inv X pins σ H s)(e:Rd H a (.dK kvs))(h:∀t s',Inv X pins σ H s'->Q (.int kvs.length t) s'):Kz (KF X.prog X.w) A (call (.builtin "len") [.ref a]) Q E s:=by
 obtain⟨z,hd,vs,rel,dd⟩:=ku I.hok e;refine call_len_dict hd dd (by rw[←rel.length];rw[MO] at z;omega) ?_;rw[←rel.length];exact h _ _ (I.tok _)
end
def Dr(i:Le):Prop:=∀ov iv,Py i false ov iv=Tv [ov,iv] (O4 ov iv)
theorem yF{prog:KZ}{w:Lk}{A:K3}{E:Value->Ka->Prop}{s:Ka}{env:SK}{value slice:Le}{pos:NW}{T id:String}{Q:Value->Ka->Prop}
  (hl:typeLookup (.type T) "__getitem__"=Mz (some (.builtin id))) (hs:Dr slice)
  (h:Kz (KF prog w) A (eval value env) (λo s₁=>Kz (KF prog w) A (eval slice env) (λi s₂=>s₂.TypeIs o T/\Kz (KF prog w) A (O4 o i) Q E s₂) E s₁) E s) :
  Kz (KF prog w) A (eval (.Subscript value slice pos) env) Q E s:=by
 refine SV (MX h (λo s₁ h₁=>MX h₁ (λi s₂ h₂=>?_) λ_ _ x=>x) λ_ _ x=>x);obtain⟨hT,h₂⟩:=h₂;unfold Rf;refine J8 ?_;rw[getitemInPython_of_ne hT.not_modules];refine J8 (wpAny_specialOf hT hl ?_);have fin:Kz (KF prog w) A (Py slice false o i) (λr s₃=>Kz (KF prog w) A (letTemporaryGo value o r >>= λ_=>Mz r) Q E s₃) E s₂:=by
  rw[hs o i];exact wpAny_operating (MX h₂ (λr s₃ h₃=>J8 (wpAny_letTemporaryGo (wpAny_pure h₃))) λ_ _ x=>x)
 first
  |exact wpAny_pure (J8 fin)
  |exact J8 (wpAny_pure (J8 fin))
  |exact J8 fin
theorem oZ{X:Cx}{pins:List (Addr×LY)}{σ:St}{H:Hp}{s:Ka}{a:Addr}{y:V}{o:Option V}(I:Inv X pins σ H s)(g:ib H a y o):s.TypeIs (.ref a) "dict" := by
 rcases g with⟨kvs,k,e,_,_⟩ | ⟨kvs,k,b,e,_,_,_⟩
 ·obtain⟨_,_,vs,_,dd⟩:=ku I.hok e;exact dd.typeIs
 ·obtain⟨_,_,xs,_,dd⟩:=lK I.hok e;exact dd.typeIs
def Az(td ty:TE):TE:=λσ H Q=>td σ H λx H1=>ty σ H1 λy H2=>∃a v,x=.ref a/\ib H2 a y (some v)/\Q v H2
def IJ(ty td:TE):TE:=λσ H Q=>ty σ H λy H1=>td σ H1 λx H2=>∃a o,x=.ref a/\ib H2 a y o/\Q (.bl o.isSome) H2
def rh(ty td:TE):TE:=λσ H Q=>ty σ H λy H1=>td σ H1 λx H2=>∃a o,x=.ref a/\ib H2 a y o/\Q (.bl (!o.isSome)) H2
def AG(td ty tv:TE):TS:=λD σ H=>tv σ H λv H1=>td σ H1 λx H2=>ty σ H2 λy H3=>∃a H4,x=.ref a/\kW H3 a y v H4/\D.nx σ H4
def G9(td ty tv:TE)(rd:V->V->Hp->VK->Prop):TS:=λD σ H=>td σ H λx H1=>ty σ H1 λy H2=>∃a v,x=.ref a/\ib H2 a y (some v)∧
 tv σ H2 λy2 H3=>rd v y2 H3 λz H4=>∃H5,kW H4 a y z H5/\D.nx σ H5
section
variable {X:Cx}{o i e value:Le}{pos pos' tpos:NW}{td ty tv:TE}
theorem zt(hu:X.A.units+1<cLine)(ho:PE X o td)(hi:PE X i ty)(hs:Dr i):PE X (.Subscript o i pos) (Az td ty):=by
 intro pins s σ H Q I h;refine yF PySem.F.slot_dict_getitem.lookup hs (bJ (ho pins s σ H _ I h) λu s1 ⟨x,H1,I1,rx,q1⟩=>bJ (hi pins s1 σ H1 _ I1 q1) λiv s2 ⟨y,H2,I2,ry,a,v,ex,g,q2⟩=>?_);subst ex;obtain rfl:u=K7 a:=rx;exact⟨oZ I2 g,tZ hu I2 g ry λw' s3 I3 rw'=>⟨v,H2,I3,rw',q2⟩⟩
theorem tJ(hu:X.A.units+1<cLine)(hi:PE X i ty)(ho:PE X o td):PC X .NotIn i o (rh ty td):=by
 intro pins s σ H Q I h;refine bJ (hi pins s σ H _ I h) λiv s1 ⟨y,H1,I1,ry,q1⟩=>bJ (ho pins s1 σ H1 _ I1 q1) λu s2 ⟨x,H2,I2,rx,a,ov,ex,g,q2⟩=>?_
 subst ex;obtain rfl:u=K7 a:=rx;exact Aa hu I2 g ry λs3 I3=>⟨.bl (!ov.isSome),H2,I3,Z,q2⟩
theorem zb(hu:X.A.units+1<cLine)(ho:PE X o td)(hi:PE X i ty)(hv:PE X value tv)(hs:NQ value (some (.Subscript o i pos')) pos.line X.env=Mz false) :
  PS X (.Assign [.Subscript o i pos'] value pos) (AG td ty tv):=by
 intro pins s σ H D I h;refine wpAny_Assign_Subscript (bJ (hv pins s σ H _ I h) λr s1 ⟨v,H1,I1,rv,q1⟩=>bJ (ho pins s1 σ H1 _ I1 q1) λu s2 ⟨x,H2,I2,rx,q2⟩=>bJ (hi pins s2 σ H2 _ I2 q2) λiv s3 ⟨y,H3,I3,ry,a,H4,ex,g,q3⟩=>?_) hs;subst ex;obtain rfl:u=K7 a:=rx;exact tY hu I3 g ry rv λs4 I4=>⟨σ,H4,I4,q3⟩
end
theorem xP(h:Kp)(hb:NB<h.objs.size):bo P w H (h.push { cls:=.type "dict",data:=.dict #[]}) h.objs.size (.dK []):=
 ⟨KJ _,beq_eq_false_iff_ne.mpr (M5 (KM hb)),[],.nil,Kp.DictOf.new h⟩
def uy:TE:=λ_ H Q=>∀p,H p=none->Q (.ref p) (av H p (.dK []))
section
variable {X:Cx}{pos:NW}
theorem wA:PE X (.Dict [] [] pos) uy:=λpins s σ H Q I h=>
 wpAny_Dict_empty ⟨.ref s.heap.objs.size,_,I.laid (a:=s.heap.objs.size) (o:=.dK []) (t':=s.toks) (λ_ _ q=>Kd _ q) (Kb _) (xP s.heap I.big),Z,h _ (I.hok.fresh (Kb _))⟩
end
def pS:List (TE×TE)->St->Hp->(List (V×V)->Hp->Prop)->Prop
 | [],_,H,Q=>Q [] H
 | (tk,tv)::r,σ,H,Q=>tk σ H λx H1=>tv σ H1 λy H2=>pS r σ H2 λps H3=>Q ((x,y)::ps) H3
abbrev VV:List (V×V)->List (Value×Value)->Prop:=Paired λp q=>aY p.1 q.1/\aY p.2 q.2
def JZ(X:Cx)(pos:NW)(keys:List (Option Le))(values:List Le)(trs:List (TE×TE)):Prop:=
 ∀(pins:List (Addr×LY)) (s:Ka) (σ:St) (H:Hp) (Q:List (V×V)->Hp->Prop),Inv X pins σ H s->pS trs σ H Q→
  Kz (KF X.prog X.w) X.A (evalPairs (pairTrees keys values X.env pos)) (λvs s'=>∃ps H',Inv X pins σ H' s'/\VV ps vs/\Q ps H') X.xe s
def CN(kvs more:List (cv×V)):List (cv×V):=more.foldl (λacc kv=>dZ acc kv.1 kv.2) kvs
def G3(trs:List (TE×TE)):TE:=λσ H Q=>∀p,H p=none->pS trs σ (av H p (.dK [])) λps H2=>H2 p=some (.dK [])/\∃kvs:List (cv×V),ps=kvs.map (λkv=>(kV kv.1,kv.2))/\kvs.length≤15/\Q (.ref p) (av H2 p (.dK (CN [] kvs)))
structure M1(X:Cx)(o:Le)(m:K1)(apos:NW)(e:Le)(cpos:NW):Prop where
 base:MJ o m X.env (eval o X.env)=eval o X.env
 few:((MW cpos (Kr [e] X.env)).all (λx=>!x.1)&&(OU cpos (NA [] X.env)).all (λx=>x.1.isSome)
 &&decide (([e]:List Le).length+([]:List O6).length+(if([]:List O6).isEmpty then 0 else 1)<30))=true
 line:(apos.endLine==cpos.line)=true
 trees:MW cpos (Kr [e] X.env)=[(false,eval e X.env)]
structure M2(X:Cx)(o:Le)(m:K1)(apos:NW)(e f:Le)(cpos:NW):Prop where
 base:MJ o m X.env (eval o X.env)=eval o X.env
 few:((MW cpos (Kr [e,f] X.env)).all (λx=>!x.1)&&(OU cpos (NA [] X.env)).all (λx=>x.1.isSome)
 &&decide (([e,f]:List Le).length+([]:List O6).length+(if([]:List O6).isEmpty then 0 else 1)<30))=true
 line:(apos.endLine==cpos.line)=true
 trees:MW cpos (Kr [e,f] X.env)=[(false,eval e X.env),(false,eval f X.env)]
def GM(H:Hp)(a:Addr):Prop:=(∃kvs,Rd H a (.dK kvs))∨∃kvs,Rd H a (.dT kvs)
theorem xk{X:Cx}{pins:List (Addr×LY)}{σ:St}{H:Hp}{s:Ka}{a:Addr}(I:Inv X pins σ H s)(d:GM H a) :
  s.TypeIs (.ref a) "dict"/\(∀b,K7 a=.ref b->∃ob,s.heap.get? b=some ob/\ob.dict=none)/\(a==NB)=false:=by
 rcases d with⟨kvs,e⟩ | ⟨kvs,e⟩
 ·obtain⟨_,hd,vs,_,dd⟩:=ku I.hok e;refine⟨dd.typeIs,λb q=>?_,hd⟩
  cases q
  obtain⟨ob,_,_,h1,h2,_⟩:=dd;exact⟨ob,h1,h2.2.1⟩
 ·obtain⟨_,hd,xs,_,dd⟩:=lK I.hok e;refine⟨dd.typeIs,λb q=>?_,hd⟩
  cases q
  obtain⟨ob,_,_,h1,h2,_⟩:=dd;exact⟨ob,h1,h2.2.1⟩
section
variable {X:Cx}{pins:List (Addr×LY)}{σ:St}{H:Hp}{s:Ka}{a:Addr}{y d:V}{u r:Value}{o:Option V}{A:K3}{E:Value->Ka->Prop}
theorem Dc(hu:A.units+1<cLine)(I:Inv X pins σ H s)(g:ib H a y o)(ry:aY y u)(rd:aY d r)(h:∀w' s',Inv X pins σ H s'->aY (o.getD d) w'->Q w' s'):
  Kz (KF X.prog X.w) A (call (.builtin "dict.get") [.ref a,u,r]) Q E s:=by
 rcases g with⟨kvs,k,e,ey,l⟩ | ⟨kvs,k,b,e,ey,eb,l⟩
 ·subst ey;obtain⟨z,hd,vs,rel,dd⟩:=ku I.hok e;refine call_meetsIn OH dd.typeIs Qr (P6 _ _ _) (meets_dict_get_default (bD X.prog X.w) a (oO ry) hd r) ⟨_,dd.mapOf,h _ _ (I.tok _) ?_⟩;rw[l];exact(rel.val k).getD rd
 ·subst ey
  cases(show u=K7 b from ry)
  obtain⟨z,hd,xs,rel,dd⟩:=lK I.hok e;refine call_meetsIn OH dd.typeIs Qr (P6 _ _ _) (meetsH_dict_get_default (P1 (bD X.prog X.w)) a b hd r) ⟨Op hu,k,xs,ki I.hok eb,dd,h _ _ (I.tok _) ?_⟩;rw[l];exact(rel.val k).getD rd
end
def F6(td ty:TE):TE:=λσ H Q=>td σ H λx H1=>∃a,x=.ref a/\GM H1 a/\ty σ H1 λy H2=>∃o,ib H2 a y o/\Q (o.getD .non) H2
def uz(td ty tx:TE):TE:=λσ H Q=>td σ H λx H1=>∃a,x=.ref a/\GM H1 a/\ty σ H1 λy H2=>tx σ H2 λz H3=>∃o,ib H3 a y o/\Q (o.getD z) H3
section
variable {X:Cx}{o e f:Le}{apos cpos:NW}{td ty tx:TE}
theorem wC(hu:X.A.units+1<cLine)(ho:PE X o td)(he:PE X e ty)(hf:PE X f tx)(m:M2 X o "get" apos e f cpos):PE X (.Call (.Attribute o "get" apos) [e,f] [] cpos) (uz td ty tx):=by
 intro pins s σ H Q I h;refine RT m.base m.few m.line P7 OH PySem.F.type_dict_get (bJ (ho pins s σ H _ I h) λu s1 ⟨x,H1,I1,rx,a,ex,d,q1⟩=>?_);subst ex;obtain rfl:u=K7 a:=rx;obtain⟨t1,t2,_⟩:=xk I1 d;refine⟨t1,t2,?_⟩;rw[m.trees];refine Calls.callWith_builtin Z (Calls.evalArgs_plain (Calls.spliced_cons (bJ (he pins s1 σ H1 _ I1 q1) λiv s2 ⟨y,H2,I2,ry,q2⟩=>
  Calls.spliced_cons (bJ (hf pins s2 σ H2 _ I2 q2) λfv s3 ⟨z,H3,I3,rz,ov,g,q3⟩=>Calls.spliced_nil ?_))))
 exact Dc hu I3 g ry rz λw' s4 I4 rw'=>⟨_,H3,I4,rw',q3⟩
end
end L2
namespace B
open PySem PySem.Spec L2 PyProof.Rows
theorem eF{α β:Type}{K:J5}{H:Hp}{D a:Addr}{xs:List V}{ds:List α}{P:Hp->V->β->Prop}{f:α->β}{src:List (Option Nat)}{σ:L2.St}{g:TG}{tt:TT}{te:TE}{Q:Hp->Prop}
  (mono:∀H H' v d,aT K H H'->P H v d->P H' v d) (hD:H D=none) (hS:bH K H a xs) (hl:xs.length=ds.length) (hn:ds.length≤1000)
  (turn:∀(i:Nat) (x:V) (d:α) (H':Hp),xs[i]?=some x->ds[i]?=some d->aC H H'->∀(R:VK) (E:Hp->Prop),(∀v H'',aC H' H''->P H'' v (f d)->R v H'')→
   g x (cr src σ) H' λσ2 H2=>eU (cr src σ) σ2/\tt σ2 H2 λok H3=>if ok=true then te σ2 H3 R else E H3)
  (fin:∀H' ys,aC H H'->H' D=some (.lst ys)->cK (P H') ys (ds.map f)->Q H') :
  ∃W:Nat->Nat->List V->Hp->Prop,(∃m,W 0 m [] (av H D (.lst [])))/\∀i m ys H,W i m ys H->((yr K a).stop i H/\Q H)∨((yr K a).go i H/\∀x H',(yr K a).yld i H x H'→
   g x (cr src σ) H' λσ2 H2=>eU (cr src σ) σ2/\tt σ2 H2 λok H3=>
    if ok=true then te σ2 H3 λy H4=>H4 D=some (.lst ys)/\ys.length<sizeLine/\∃m',m'<m/\W (i+1) m' (ys++[y]) (av H4 D (.lst (ys++[y]))) else ∃m',m'<m/\W (i+1) m' ys H3):=by
 refine⟨λi m ys H'=>i≤ds.length/\m=ds.length-i/\H' D=some (.lst ys)/\aC H H'/\cK (P H') ys ((ds.take i).map f),⟨_,KJ _,Z,zqd,ai hD _,.nil⟩,?_⟩;rintro i m ys H1 ⟨hi,rfl,d1,s1,al1⟩;have hS1:bH K H1 a xs:=aT.same s1 _ _ hS;by_cases hix:i<ds.length
 ·have hx0:xs[i]?=some (xs[i]'(by omega)):=J6 _;refine .inr ⟨⟨xs,_,hS1,hx0⟩,?_⟩;rintro x H2 ⟨rfl,hy⟩;have hx:=hy xs hS1;obtain⟨d,hd⟩:∃d,ds[i]?=some d:=⟨_,J6 hix⟩;refine turn i x d _ hx hd s1 _ _ λv H3 s3 p3=>?_
  have d3:H3 D=some (.lst ys):=s3 _ _ d1;have tm:aT K H2 (av H3 D (.lst (ys++[v]))):=(aT.same s3).trans (aT.up d3 _);refine⟨d3,bf (by rw[al1.len,J7,K0];omega),ds.length-(i+1),by omega,hix,Z,zqd,λb o q=>?_,?_⟩
  ·rw[ak (aB q hD)];exact s3 _ _ (s1 _ _ q)
  ·rw[KP,hd,Ku];exact(al1.mono λv d p=>mono _ _ _ _ tm p).snoc (mono _ _ _ _ (aT.up d3 _) p3)
 ·have e:i=ds.length:=by omega
  subst e;rw[K2] at al1;exact .inl ⟨⟨xs,hS1,by omega⟩,fin H1 ys s1 d1 al1⟩
def jJ:Kv->String
 | .none => "NoneType"
 | .bool _ => "bool"
 | .int _ => "int"
 | .str _ => "str"
 | .list _ => "list"
 | .tuple _ => "tuple"
 | .dict _ => "dict"
def AJ(K:J5):List V->Hp->VK->Prop:=λxs H Q=>∃v d n b,xs=[v,.ty n]/\bS K H v d/\ja (jJ d) n=some b/\Q (.bl b) H
theorem dq:cM X (.builtin "isinstance") (AJ X.K):=by
 intro pins s σ H xs us Q I r h;obtain⟨v,d,n,b,rfl,hD,e,q⟩:=h
 cases hD with
 |non=>exact iF pins s σ H _ us Q I r ⟨_,n,_,b,Z,.non,e,q⟩
 |bl c=>exact iF pins s σ H _ us Q I r ⟨_,n,_,b,Z,.bl c,e,q⟩
 |int i=>exact iF pins s σ H _ us Q I r ⟨_,n,_,b,Z,.int i,e,q⟩
 |str x=>exact iF pins s σ H _ us Q I r ⟨_,n,_,b,Z,.str x,e,q⟩
 | @tup a ys ds hS hA=>exact ug pins s σ H _ us Q I r ⟨a,ys,n,b,Z,hS,e,q⟩
 | @lst a ys ds hS hA=>
  obtain⟨u,u2,rfl,rx,ry⟩:=qX r;obtain rfl:u2=Mp n:=ry
  cases(show u=K7 a from rx)
  obtain⟨its,_,⟨o,k,h1,h2,_⟩,_⟩:=I.list hS;exact LK PB I.kIn ⟨o,h1,h2⟩ (qx e) (λz=>nomatch z) λtk=>⟨.bl b,H,I.tok tk,Z,q⟩
def l7:Kv->Bool
 | .int _=>true
 |_=>false
def IA(n:Nat):Kv->Bool
 | .tuple xs=>decide (xs.length=n)
 |_=>false
def Ef:Kv->Bool
 | .tuple [.int a,.int b]=>decide (1≤b)&&decide (KA a b=1)
 |_=>false
def Hn:Kv->Bool
 | .tuple [x,y]=>Ef x&&Ef y
 |_=>false
theorem zU{K:J5}{H:Hp}{v:V}{d:Kv}(h:bS K H v d):∃b c,ja (jJ d) "int"=some b/\ja (jJ d) "bool"=some c/\l7 d=(b&&!c):=by
 cases h with
 |non=>exact⟨false,false,by simp only[jJ];decide +kernel,by simp only[jJ];decide +kernel,Z⟩
 |bl b=>exact⟨true,true,by simp only[jJ];decide +kernel,by simp only[jJ];decide +kernel,Z⟩
 |int i=>exact⟨true,false,by simp only[jJ];decide +kernel,by simp only[jJ];decide +kernel,Z⟩
 |str x=>exact⟨false,false,by simp only[jJ];decide +kernel,by simp only[jJ];decide +kernel,Z⟩
 |lst e t=>exact⟨false,false,by simp only[jJ];decide +kernel,by simp only[jJ];decide +kernel,Z⟩
 |tup e t=>exact⟨false,false,by simp only[jJ];decide +kernel,by simp only[jJ];decide +kernel,Z⟩
theorem zT{K:J5}{H:Hp}{v:V}{d:Kv}(h:bS K H v d):(ja (jJ d) "tuple"=some true/\∃a xs ds,v=.ref a/\d=.tuple ds/\bH K H a xs/\be K H xs ds)∨(ja (jJ d) "tuple"=some false/\∀ds,d≠.tuple ds):=by
 cases h with
 |non=>exact .inr ⟨by simp only[jJ];decide +kernel,λ_ z=>nomatch z⟩
 |bl b=>exact .inr ⟨by simp only[jJ];decide +kernel,λ_ z=>nomatch z⟩
 |int i=>exact .inr ⟨by simp only[jJ];decide +kernel,λ_ z=>nomatch z⟩
 |str x=>exact .inr ⟨by simp only[jJ];decide +kernel,λ_ z=>nomatch z⟩
 |lst e t=>exact .inr ⟨by simp only[jJ];decide +kernel,λ_ z=>nomatch z⟩
 |tup e t=>exact .inl ⟨by simp only[jJ];decide +kernel,_,_,_,Z,Z,e,t⟩
theorem be.len{K:J5}{H:Hp}:∀{xs:List V} {ds:List Kv},be K H xs ds->xs.length=ds.length
 |_,_,.nil=>rfl
 |_,_,.cons _ t=>congrArg Nat.succ t.len
structure Sh(k n:Nat)(d:Kv):Prop where
 sh:d.showable=true
 nd:d.hasDict=false
 dp:d.depth≤k
 sz:d.shown.length≤n
mutual
theorem bS.same{K:J5}{H H':Hp}(s:aC H H'):∀{v:V} {d:Kv},bS K H v d->bS K H' v d
 |_,_,.non=>.non
 |_,_,.bl b=>.bl b
 |_,_,.int i=>.int i
 |_,_,.str x=>.str x
 |_,_,.lst e t=>.lst (s.seq e) (be.same s t)
 |_,_,.tup e t=>.tup (aT.same s _ _ e) (be.same s t)
theorem be.same{K:J5}{H H':Hp}(s:aC H H'):∀{vs:List V} {ds:List Kv},be K H vs ds->be K H' vs ds
 |_,_,.nil=>.nil
 |_,_,.cons h t=>.cons (bS.same s h) (be.same s t)
end
theorem zJ:fJ X (LB .IsNot) (λx y H Q=>∃b c,x=.bl b/\y=.bl c/\Q (.bl (!decide (b=c))) H):=by
 intro pins s σ H x y v u Q I rx ry h;obtain⟨b,c,rfl,rfl,q⟩:=h;obtain rfl:v=Om b:=rx;obtain rfl:u=Om c:=ry;refine wpAny_isNot_plain (by cases b<;>cases c<;>rfl) ⟨.bl _,H,I,?_,q⟩
 cases b<;>cases c<;>rfl
end B
namespace B
open PySem PySem.Spec L2 PyProof.Rows
def Hk(K:J5):R2:=λx y H Q=>∃a b xs ys,x=.ref a/\y=.ref b/\bH K H a xs/\bH K H b ys/\xs.length+ys.length≤sizeLine/\∀p H',aC H H'->bH K H' p (xs++ys)->Q (.ref p) H'
def IR(K:J5):V->Option Int->Option Int->Hp->VK->Prop:=λx lo hi H Q=>∃a xs,x=.ref a/\bH K H a xs/\∀p H',aC H H'->bH K H' p (ky xs lo hi)->Q (.ref p) H'
def Jm(K:J5)(s:Addr):Prop:=∃ns:List Int,ns.length≤63/\∀H:Hp,aO K H s (ns.map V.int)
structure yi(K:J5)(H:Hp)(t s:Addr):Prop where
 ex:∃(ns:List Int) (p q:Int),H t=some (.lst [.ref s,.int p,.int q])/\((Rd H s (.lst (ns.map V.int))/\s≠t)∨∀H',aO K H' s (ns.map V.int))/\ns.length≤63/\0≤p/\0≤q
def D6(K:J5):Sp:=λvs H Q _=>∃(a:Addr) (ns:List Int),vs=[.ref a]/\aO K H a (ns.map V.int)/\ns.length≤63/\∀(t:Addr) (H':Hp),aC H H'->H t=none->yi K H' t a->Q (.ref t) H'
def D8(K:J5):Sp:=λvs H Q _=>∃(t s:Addr) (m:Int),vs=[.ref t,.int m]/\yi K H t s/\0<m/\m<1073741824/\∀(r:Int) (xs:List V),0≤r->r<m->yi K (av H t (.lst xs)) t s->Q (.int r) (av H t (.lst xs))
section
set_option autoImplicit true
set_option relaxedAutoImplicit true
theorem oz{X:Cx}{elts:List Le}{x1}{tp p pos:NW}{a:Le}{ta:TA}(hg:Gl X "enumerate")(hm:X.mg "enumerate"=none)(ha:QA X [a] ta)(hs:Kr [a] X.env=[(false,eval a X.env)]:=by rfl):QI X (.Tuple elts x1 tp) (.Call (.Name "enumerate" p) [a] [] pos) (EU X.K ta):=⟨we hg hm ha.p hs⟩
end
theorem nk:∀{ns:List Int} {us:List Value},aZ (ns.map V.int) us->Nf us ns
 | [],_,.nil=>.nil
 |n::ns,_,.cons r t=>by
  obtain⟨tk,rfl⟩:=(show ∃t,_=Mf n t from r);exact .cons _ _ (nk t)
theorem ub(hc:X.calm=true):cM X (.builtin "sum") (λxs H Q=>∃(p:Addr) (ns:List Int),xs=[.ref p]/\aO X.K H p (ns.map V.int)/\Q (.int ns.sum) H):=by
 intro pins s σ H xs us Q I r h;obtain⟨p,ns,rfl,hq,q⟩:=h;obtain⟨u,rfl,rx⟩:=fU r
 cases rx
 obtain⟨its,rv,pl,hz⟩:=I.list hq;have hi:=nk rv;obtain⟨zs,ez⟩:=hi.allInts.items;have hl:=pl.isList;rw[ez] at hl;have en:numsOf its=ns:=hi.numsOf;rw[show its=its.toArray.toList from Z,ez,nums_intItems] at en;refine sum_intListG (I.ok.hd hc) hl λh' tk t' hk=>?_
 rw[preSum_eq,NF (by simp),en];exact⟨.int ns.sum,H,I.kept (t':=tk) hk,⟨_,Z⟩,q⟩
theorem pC:∀{bs:List Bool} {us:List Value},aZ (bs.map V.bl) us->∀{i:Nat} {v:Value},us[i]?=some v->v=.bool (bs.getD i true)
 | [],_,.nil,i,v,e=>by cases e
 |b::bs,_,.cons r t,0,v,e=>by
  rw[Ov] at e
  cases e
  exact(show _=Om b from r)
 |b::bs,_,.cons r t,i+1,v,e=>by
  rw[Ow] at e;exact pC t e
theorem lW:∀(bs:List Bool),(J9 bs.length).all (λi=>bs.getD i true)=bs.all id
 | []=>rfl
 |b::bs=>by
  rw[Lb,Qs,OR,Qt,OR];have:=lW bs;show(b&&(J9 bs.length).all (λi=>bs.getD i true))=(id b&&bs.all id);rw[this];rfl
theorem iV(hc:X.calm=true):cM X (.builtin "all") (λxs H Q=>∃(p:Addr) (bs:List Bool),xs=[.ref p]/\aO X.K H p (bs.map V.bl)/\Q (.bl (bs.all id)) H):=by
 intro pins s σ H xs us Q I r h;obtain⟨p,bs,rfl,hq,q⟩:=h;obtain⟨u,rfl,rx⟩:=fU r
 cases rx
 obtain⟨its,rv,pl,hz⟩:=I.list hq;have ne:p≠s.heap.objs.size:=by
  obtain⟨o,ho,_⟩:=pl.isList;exact KM (Kx ho)
 have hlen:its.toArray.size=bs.length:=by rw[KI,←rv.length,J7]
 refine call_all_walk (Oz pl.isList ?_);refine⟨_,_,_,_,_,_,λi=>bs.getD i true,Z,Walks.list (A:=X.A.in1) (I.ok.hd hc) _ p ne its.toArray,⟨⟨_,Kq _ Z,Z,Z⟩,pl.isList.push _⟩,λi v s' Q' E' hv hQ=>?_,λh' tk hk=>?_⟩
 ·have e:=pC rv (i:=i) (v:=v) (by simpa using hv);subst e;exact Mc hQ
 ·rw[hlen,lW];refine⟨.bl _,H,I.kept (t':=tk) λb o e=>hk b o (λz=>?_) (Kd _ e),Z,q⟩;rw[Ks.mp z] at e;exact absurd (Kx e) (MG _)
section
variable {prog:KZ}{w:Lk}{A:K3}{E:Value->Ka->Prop}{s:Ka}
end
def upTo(n:Nat):List Int:=(J9 n).map λi:Nat=>(i:Int)
theorem pK(h:ItemsOf (λi v=>∃t,v=.int ((0:Int)+i*1) t) acc n):aZ ((upTo n).map V.int) acc.toList:=by
 obtain⟨hl,ha⟩:=h;have key:∀m,m≤n->aZ ((upTo m).map V.int) (acc.toList.take m):=by
  intro m
  induction m with
  |zero=>intro _;rw[S2];exact .nil
  |succ m ih=>
   intro hm;have hlt:m<acc.size:=by omega
   have e1:acc.toList.take (m+1)=acc.toList.take m++[acc[m]]:=by
    rw[KP];simp[hlt]
   have e2:(upTo (m+1)).map V.int=(upTo m).map V.int++[V.int m]:=by
    unfold upTo;rw[LU];simp
   rw[e1,e2];refine(ih (by omega)).append (.cons ?_ .nil);obtain⟨t,e⟩:=ha m acc[m] (by simp[hlt]);exact⟨t,by rw[e];simp⟩
 have:=key n (Kb _)
 rwa [NF (by simp[hl])] at this
def At(ta:TA):TE:=λσ H Q=>ta σ H λvs H1=>∃j:Int,vs=[.int j]/\∀p,H1 p=none->Q (.ref p) (av H1 p (.rng 0 j))
theorem zo{X:Cx}{a:Le}{ta:TA}{p pos:NW}(hg:Gl X "range")(hm:X.mg "range"=none)(ha:PA X [a] ta)(hs:Kr [a] X.env=[(false,eval a X.env)]:=by rfl) :
  PE X (.Call (.Name "range" p) [a] [] pos) (At ta):=by
 intro pins s σ H Q I h;refine Call_ (hX I hg hm SN (Mn (bJ (ha pos pins s σ H _ I h) λus s1 ⟨vs,H1,I1,r1,q1⟩=>?_) hs Z));obtain⟨j,e,q⟩:=q1;subst e;obtain⟨u,rfl,t,rfl⟩:=fU r1;refine call_range_1 ?_;exact⟨.ref s1.heap.objs.size,_,I1.laid (o:=.rng 0 j) (λb o e=>Kd _ e) (Kb _) ⟨_,t,_,Kq _ Z⟩,Z,q _ (I1.hok.fresh (Kb _))⟩
theorem yM(n:Nat):P2 0 n 1=n:=by rw[rangeSize_one];split<;>omega
def Jw(hi:Int)(n:Nat):It:=⟨λi _=>i<n,λi H x H'=>H'=H/\x=.int (hi-i),λi _=>n≤i⟩
def Hw(ta:TA):TI:=λσ H R=>ta σ H λvs H1=>∃i j:Int,vs=[.int i,.int j,.int (-1)]/\(-1000≤i/\i≤1000/\-1000≤j/\j≤1000)/\R (Jw i (i-j).toNat) H1
section
set_option autoImplicit true
set_option relaxedAutoImplicit true
theorem yT{X:Cx}{a:Le}{ta:TA}{p pos:NW}(hg:Gl X "range")(hm:X.mg "range"=none)(ha:QA X [a] ta)(hs:Kr [a] X.env=[(false,eval a X.env)]:=by rfl):QE X (.Call (.Name "range" p) [a] [] pos) (At ta):=⟨zo hg hm ha.p hs⟩
end
structure Dh(J:It)(H:Hp)(n:Nat)(P:Nat->V->Hp->Prop):Prop where
 go:∀i H',i<n->aC H H'->J.go i H'
 stop:∀H',aC H H'->J.stop n H'
 yld:∀i H' x H'',i<n->aC H H'->J.yld i H' x H''->aC H' H''/\P i x H''
theorem ic{K:J5}{H:Hp}{a:Addr}{xs:List V}(h:aO K H a xs):Dh (yt K a) H xs.length (λi x _=>xs[i]?=some x) where
 go:=λi H' hi s=>⟨xs,_,s.seq h,J6 hi⟩
 stop:=λH' s=>⟨xs,s.seq h,Kb _⟩
 yld:=λi H' x H'' hi s y=>by obtain⟨rfl,hy⟩:=y;exact⟨aC.refl _,hy xs (s.seq h)⟩
theorem l5{K:J5}{H:Hp}{a:Addr}{xs:List V}(h:bH K H a xs):Dh (yr K a) H xs.length (λi x _=>xs[i]?=some x) where
 go:=λi H' hi s=>⟨xs,_,aT.same s _ _ h,J6 hi⟩
 stop:=λH' s=>⟨xs,aT.same s _ _ h,Kb _⟩
 yld:=λi H' x H'' hi s y=>by obtain⟨rfl,hy⟩:=y;exact⟨aC.refl _,hy xs (aT.same s _ _ h)⟩
theorem fK{lo:Int}{n:Nat}:Dh (Ar lo n) H n (λi x _=>x=.int (lo+i)) where
 go:=λi H' hi s=>hi
 stop:=λH' s=>Kb _
 yld:=λi H' x H'' hi s y=>by obtain⟨rfl,rfl⟩:=y;exact⟨aC.refl _,Z⟩
theorem qW{K:J5}{H:Hp}{a:Addr}{xs:List V}(h:aO K H a xs):Dh (Du K a) H xs.length (λi v H'=>∃p x,v=.ref p/\xs[i]?=some x/\H' p=some (.tup [.int i,x])) where
 go:=λi H' hi s=>⟨xs,_,s.seq h,J6 hi⟩
 stop:=λH' s=>⟨xs,s.seq h,Kb _⟩
 yld:=λi H' x H'' hi s y=>by obtain⟨p,v,hp,rfl,rfl,hy⟩:=y;exact⟨ai hp _,p,v,Z,hy xs (s.seq h),zqd⟩
theorem bY{J:It}{H:Hp}{D:Addr}{n:Nat}{P:Nat->V->Hp->Prop}(w:Dh J H n P)(c:Nat->Bool)(f:Nat->V){src:List (Option Nat)}{σ:L2.St}{g:TG}{tt:TT}{te:TE}{Q:Hp->Prop}(hD:H D=none)(hn:n≤1000)
  (turn:∀(i:Nat) (x:V) (H':Hp),i<n->aC H H'->P i x H'->∀(R:VK) (E:Hp->Prop),(c i=true->∀H'',aC H' H''->R (f i) H'')->(c i=false->∀H'',aC H' H''->E H'')→
   g x (cr src σ) H' λσ2 H2=>eU (cr src σ) σ2/\tt σ2 H2 λok H3=>if ok=true then te σ2 H3 R else E H3)
  (fin:∀H',aC H H'->H' D=some (.lst (((J9 n).filter c).map f))->Q H') :
  ∃W:Nat->Nat->List V->Hp->Prop,(∃m,W 0 m [] (av H D (.lst [])))/\∀i m ys H,W i m ys H->(J.stop i H/\Q H)∨(J.go i H/\∀x H',J.yld i H x H'→
   g x (cr src σ) H' λσ2 H2=>eU (cr src σ) σ2/\tt σ2 H2 λok H3=>
    if ok=true then te σ2 H3 λy H4=>H4 D=some (.lst ys)/\ys.length<sizeLine/\∃m',m'<m/\W (i+1) m' (ys++[y]) (av H4 D (.lst (ys++[y]))) else ∃m',m'<m/\W (i+1) m' ys H3):=by
 refine⟨λi m ys H'=>i≤n/\m=n-i/\ys=((J9 i).filter c).map f/\aC H H'/\H' D=some (.lst ys),⟨_,KJ _,Z,Z,ai hD _,zqd⟩,?_⟩;rintro i m ys H1 ⟨hi,rfl,rfl,s1,d1⟩;by_cases hix:i<n
 ·refine .inr ⟨w.go i H1 hix s1,λx H2 y=>?_⟩;obtain⟨s2,p⟩:=w.yld i H1 x H2 hix s1 y;have d2:=s2 _ _ d1;have len:(((J9 i).filter c).map f).length≤i:=by
   rw[J7];exact K5 (Lm _ _) (by rw[KB];exact Kb _)
  refine turn i x H2 hix (s1.trans s2) p _ _ (λhc H3 s3=>?_) λhc H3 s3=>?_
  ·have d3:=s3 _ _ d2;refine⟨d3,bf (by omega),n-(i+1),by omega,hix,Z,?_,λb o q=>?_,zqd⟩
   ·rw[LU,Lv,Ku];simp[hc]
   ·rw[ak (aB q hD)];exact s3 _ _ (s2 _ _ (s1 _ _ q))
  ·refine⟨n-(i+1),by omega,hix,Z,?_,(s1.trans s2).trans s3,s3 _ _ d2⟩;rw[LU,Lv,Ku];simp[hc]
 ·have e:i=n:=by omega
  subst e;exact .inl ⟨w.stop H1 s1,fin H1 s1 d1⟩
theorem iG{α β:Type}(d:α)(p:α->Bool)(f:α->β):∀l:List α,((J9 l.length).filter λi=>p (l.getD i d)).map (λi=>f (l.getD i d))=(l.filter p).map f
 | []=>rfl
 |x::l=>by
  have ih:=iG d p f l;rw[Lb,Qs,So,So];have e:(((J9 l.length).map Nat.succ).filter λi=>p ((x::l).getD i d)).map (λi=>f ((x::l).getD i d))=(l.filter p).map f:=by
   rw[Oj,KY];exact ih
  show(if p x=true then _ else _:List Nat).map _=_
  cases hp:p x with
  |true=>
   simp only[if_true,KH];rw[e];rfl
  |false=>
   simp only[Lf,if_false];exact e
theorem cP{α β:Type}(d:α)(f:α->β)(l:List α):((J9 l.length).filter λ_=>true).map (λi=>f (l.getD i d))=l.map f:=by
 have:=iG d (λ_=>true) f l;rw[this,M3.mpr (by intros;rfl)]
theorem au{α:Type}{l:List α}{i:Nat}{x:α}(d:α)(h:l[i]?=some x):l.getD i d=x:=by rw[KQ,h];rfl
section
variable {prog:KZ}{w:Lk}{A:K3}{E:Value->Ka->Prop}{s:Ka}
theorem vI(hl:s.heap.get? l=some { cls:=.type "list",dict:=none,data:=.seq items k,slots:=#[]})
  (hlo:-(2^63:Int)≤x) (hhi:x<2^63) (hsz:items.size*x.toNat≤2^24)
  (h:Q (.ref s.heap.objs.size) { s with heap:=s.heap.push { cls:=.type "list",data:=.seq (S3 (λx1 x2=>x1++x2) #[] (Ki (if items.isEmpty=true then 0 else x.toNat) items))} }):
  Kz (KF prog w) A (NK .Mult (.ref l) (.int x u)) Q E s:=
 wpAny_binaryOp_repeat_ref (T := "list") (U := "int") (by decide) ⟨_,hl,Z⟩ (λs'=>SW s' x u) noFill_list_mul F.fills_int_mul F.slot_int_rmul repeat_list F.slot_int_index.lookup
  (Rr F.slot_int_rmul (SW s x u) F.entry_int_rmul (F.args_int_rmul_2 _ _) (int___rmul___int_list x u l items k)
   ⟨hl,Z,⟨_,hl,Z⟩,Rr F.slot_list_mul ⟨_,hl,Z⟩ F.entry_list_mul (F.args_list_mul_2 _ _)
    (AutoListH.list___mul___list_int_3 l items k x u (by simp[Ll.List.listFitsIndex];omega) (by omega) (by simp[Ll.List.listTooLong,sizeLine];omega))
    ⟨hl,h⟩⟩)
end
theorem oS(u:Value):∀(n:Nat) (acc:Array Value),(S3 (λx1 x2=>x1++x2) acc (Ki n #[u])).toList=acc.toList++Ki n u
 |0,acc=>by simp
 |n+1,acc=>by
  rw[Ra,NO,oS u n,Ra];simp
theorem nR{v:V}{u:Value}(r:aY v u):∀n:Nat,aZ (Ki n v) (Ki n u)
 |0=>.nil
 |n+1=>.cons r (nR r n)
theorem jA:fJ X (NK .Mult) (λx y H Q=>∃(p:Addr) (v:V) (n:Nat),x=.ref p/\y=.int n/\H p=some (.lst [v])/\n≤1000/\∀l,H l=none->Q (.ref l) (av H l (.lst (Ki n v)))):=by
 intro pins s σ H x y xv yv Q I rx ry h;obtain⟨p,v,n,rfl,rfl,hp,hn,q⟩:=h
 cases(show xv=K7 p from rx)
 obtain⟨t,rfl⟩:=(show ∃t,yv=Mf n t from ry);obtain⟨_,its,c,rv,e⟩:=(show bo X.prog X.w H s.heap p (.lst [v]) from I.hok p _ hp)
 cases rv with
 | @cons _ u _ _ r0 rr=>
 cases rr
 refine vI e (by omega) (by omega) (by simp;omega) ?_;have el:(S3 (λx1 x2=>x1++x2) #[] (Ki (if([u]:List Value).toArray.isEmpty=true then 0 else(n:Int).toNat) [u].toArray))=(Ki n u).toArray:=by
  apply Array.ext';have:=oS u n #[]
  simpa using this
 rw[el];have I2:Inv X pins σ (av H s.heap.objs.size (.lst (Ki n v))) { s with heap:=s.heap.push { cls:=.type "list",data:=.seq (Ki n u).toArray} }:=
  I.laid (t':=s.toks) (λb o e=>Kd _ e) (Kb _) (show bo X.prog X.w _ _ _ (.lst (Ki n v)) from⟨by rw[LW,MO];omega,Ki n u,_,nR r0 n,Kq _ Z⟩)
 exact⟨.ref s.heap.objs.size,_,I2,Z,q _ (I.hok.fresh (Kb _))⟩
theorem qE(hc:X.calm=true):cM X (.type "list") (λxs H Q=>∃p,∃n:Nat,xs=[.ref p]/\H p=some (.rng 0 n)/\n≤1000/\∀l,H l=none->Q (.ref l) (av H l (.lst ((upTo n).map V.int)))):=by
 intro pins s σ H xs us Q I r h;obtain⟨p,n,rfl,hp,hn,q⟩:=h;obtain⟨u,rfl,rx⟩:=fU r
 cases rx
 obtain⟨t,u,w,e⟩:=(show bo X.prog X.w H s.heap p (.rng 0 n) from I.hok p _ hp);refine call_list_range (I.ok.hd hc) (show IsRange s.heap p 0 n 1 t u w from e) (small_one (by omega) (by omega) (by omega) (by omega)) (yM n) (by omega) λh' tk acc c' hk hS hi=>?_
 have rv:=pK hi;have hl:(upTo n).length=n:=by unfold upTo;simp
 have I2:Inv X pins σ (av H s.heap.objs.size (.lst ((upTo n).map V.int))) { s with heap:=h',toks:=tk}:=
  I.laid (t':=tk) hk (Kb _) (show bo X.prog X.w _ _ _ (.lst ((upTo n).map V.int)) from⟨by rw[J7,hl,MO];omega,acc.toList,c',rv,by simpa using hS⟩)
 exact⟨.ref s.heap.objs.size,_,I2,Z,q _ (I.hok.fresh (Kb _))⟩
theorem fj{X:Cx}{K:J5}(hK:X.K=K):fJ X (LB .NotIn) (Hi K true):=hK▸mY
theorem ny(t:Nat)(ls:List Nat):CW (.int t) (ls.map λn:Nat=>V.int n)=ls.contains t:=by
 unfold CW;rw[List.any_map]
 induction ls with
 |nil=>rfl
 |cons a r ih=>
  rw[NS,List.contains_cons,ih]
  congr 1
  show decide (((a:Nat):Int)=(t:Nat))=(t==a);by_cases h:t=a
  ·subst h;simp
  ·rw[beq_eq_false_iff_ne.mpr h];exact decide_eq_false (by omega)
def Aq(ds:List Kv):Prop:=∀e∈ds,e.canLay0=true/\e.depth≤32
def I0(K:J5):R2:=λx y H Q=>∃p xs ds d,y=.ref p/\aO K H p xs/\be K H xs ds/\Aq ds/\bS K H x d/\d.canLay0=true/\LD d d=true/\Q (.bl (ds.any λe=>LD e d)) H
def FH(K:J5):R2:=λx y H Q=>∃p xs ds d,y=.ref p/\aO K H p xs/\be K H xs ds/\Aq ds/\bS K H x d/\d.canLay0=true/\LD d d=true/\Q (.bl (!ds.any λe=>LD e d)) H
def Hh(K:J5):R2:=λx y H Q=>∃p xs ds d,y=.ref p/\bH K H p xs/\be K H xs ds/\Aq ds/\bS K H x d/\d.canLay0=true/\LD d d=true/\Q (.bl (ds.any λe=>LD e d)) H
def FK(K:J5):V->List V->Hp->VK->Prop:=λx vs H Q=>∃p xs ds w d,x=.ref p/\vs=[w]/\aO K H p xs/\be K H xs ds/\Aq ds/\bS K H w d/\d.canLay0=true/\LD d d=true/\(∃e∈ds,LD e d=true)∧
 ∀(j:Nat) (e:Kv),ds[j]?=some e->LD e d=true->(∀m f,m<j->ds[m]?=some f->LD f d=false)->Q (.int j) H
def FI:V->List V->Hp->VK->Prop:=λx vs H Q=>∃(l:Addr) (xs:List V) (j:Nat) (y:V),x=.ref l/\vs=[.int j,y]/\H l=some (.lst xs)/\j≤xs.length/\xs.length<sizeLine/\Q .non (av H l (.lst (xs.take j++y::xs.drop j)))
mutual
def Hv:Kv->Bool
 | .int i=>decide (i.natAbs<2^230)
 | .tuple ds=>qz ds
 | .list ds=>qz ds
 | .dict _=>false
 |_=>true
def qz:List Kv->Bool
 | []=>true
 |d::ds=>Hv d&&qz ds
end
theorem gC:∀{ds:List Kv},(∀d∈ds,d.canLay0=true)->RU ds=true
 | [],_=>rfl
 |d::ds,h=>by
  show(d.canLay0&&RU ds)=true;rw[h d Kf,gC λe he=>h e (Km _ he)];rfl
structure Gd(k n:Nat)(d:Kv):Prop where
 sh:Sh k n d
 lay:d.canLay0=true
 bd:Hv d=true
def E4:Kv->R
 | .tuple [.int a,.int b]=>(a,b)
 |_=>(0,1)
def GC:Kv->R×R
 | .tuple [x,y]=>(E4 x,E4 y)
 |_=>qh
end B
namespace B
open PySem PySem.Spec L2 PyProof.Rows
theorem ud(hc:X.calm=true):cM X (.builtin "min") (λxs H Q=>∃(p:Addr) (ns:List Int),xs=[.ref p]/\aO X.K H p (ns.map V.int)/\0<ns.length/\∀M,M∈ns->(∀a∈ns,M≤a)->Q (.int M) H):=by
 intro pins s σ H xs us Q I r h;obtain⟨p,ns,rfl,hq,hne,q⟩:=h;obtain⟨u,rfl,rx⟩:=fU r
 cases rx
 obtain⟨its,rv,pl,hz⟩:=I.list hq;have hi:=nk rv;obtain⟨zs,ez⟩:=hi.allInts.items;have hl:=pl.isList;rw[ez] at hl;have en:numsOf its=ns:=hi.numsOf;rw[show its=its.toArray.toList from Z,ez,nums_intItems] at en;have hlen:zs.size=ns.length:=by rw[←en,J7,Lg]
 refine min_intList (I.ok.hd hc) hl (by omega) λv h' tk hv hk=>?_
 obtain⟨t,rfl⟩:=intItems_at hv;obtain⟨h1,h2⟩:=argBest_lt (numAt zs) (zs.size-1);refine⟨.int _,H,I.kept (t':=tk) hk,⟨_,Z⟩,q _ ?_ λa ha=>?_⟩
 ·rw[numAt_eq,en];exact getD_mem (by omega)
 ·rw[←en] at ha;obtain⟨j,hj,rfl⟩:=mem_getD ha;rw[J7,Lg] at hj;rw[←numAt_eq];exact h2 j (by omega)
theorem kA{J:It}{H:Hp}{D:Addr}{n:Nat}(Pv:Nat->List V->Hp->Prop){src:List (Option Nat)}{σ:L2.St}{g:TG}{tt:TT}{te:TE}{Q:Hp->Prop}(h0:Pv 0 [] (av H D (.lst [])))
  (go:∀i ys H',i<n->Pv i ys H'->J.go i H') (stop:∀ys H',Pv n ys H'->J.stop n H'/\Q H')
  (turn:∀i ys H' x H'',i<n->Pv i ys H'->J.yld i H' x H''->∀(R:VK) (E:Hp->Prop),(∀y H4,H4 D=some (.lst ys)->ys.length<sizeLine->Pv (i+1) (ys++[y]) (av H4 D (.lst (ys++[y])))->R y H4)->(∀H3,Pv (i+1) ys H3->E H3)→
   g x (cr src σ) H'' λσ2 H2=>eU (cr src σ) σ2/\tt σ2 H2 λok H3=>if ok=true then te σ2 H3 R else E H3) :
  ∃W:Nat->Nat->List V->Hp->Prop,(∃m,W 0 m [] (av H D (.lst [])))/\∀i m ys H,W i m ys H->(J.stop i H/\Q H)∨(J.go i H/\∀x H',J.yld i H x H'→
   g x (cr src σ) H' λσ2 H2=>eU (cr src σ) σ2/\tt σ2 H2 λok H3=>
    if ok=true then te σ2 H3 λy H4=>H4 D=some (.lst ys)/\ys.length<sizeLine/\∃m',m'<m/\W (i+1) m' (ys++[y]) (av H4 D (.lst (ys++[y]))) else ∃m',m'<m/\W (i+1) m' ys H3):=by
 refine⟨λi m ys H'=>i≤n/\m=n-i/\Pv i ys H',⟨_,KJ _,Z,h0⟩,?_⟩;rintro i m ys H1 ⟨hi,rfl,p⟩;by_cases hix:i<n
 ·refine .inr ⟨go i ys H1 hix p,λx H2 y=>?_⟩;refine turn i ys H1 x H2 hix p y _ _ (λy H4 a b c=>⟨a,b,n-(i+1),by omega,hix,Z,c⟩) λH3 c=>⟨n-(i+1),by omega,hix,Z,c⟩
 ·have e:i=n:=by omega
  subst e;exact .inl (stop ys H1 p)
def F7(t:TS):TS:=λD σ H=>∃M:L2.St->Hp->Prop,t { D with nx:=M} σ H/\∀σ' H',M σ' H'->D.nx σ' H'
theorem jZ{X:Cx}{st:Stmt}{t:TS}(h:QS X st t):QS X st (F7 t):=⟨by
 intro pins s σ H D I q;obtain⟨M,q,k⟩:=q;refine bJ (h.p pins s σ H _ I q) λf s' z=>?_
 cases f with
 |next=>obtain⟨σ',H',I',m⟩:=z;exact⟨σ',H',I',k _ _ m⟩
 |brk=>exact z
 |cont=>exact z
 |ret u=>exact z⟩
end B
namespace B
abbrev Ln:=Nat×Nat
inductive Ao(es:List Ln):Nat->Nat->Prop where
 |one {a b:Nat} (h:(a,b)∈es):Ao es a b
 |step {a b c:Nat} (h:(a,b)∈es) (t:Ao es b c):Ao es a c
def JB(n:Nat)(es:List Ln):Prop:=∀e∈es,e.1<n/\e.2<n
def J1(n:Nat)(es:List Ln)(L:Nat->Nat->Bool):Prop:=∀i j,i<n->j<n->(L i j=true↔Ao es j i)
def Jj(L:Nat->Nat->Bool)(a b:Nat):Nat->Nat->Bool:=λi j=>L i j||((decide (i=b)||L i b)&&(decide (j=a)||L a j))
structure Rx(n:Nat)(es:List Ln)(v:Nat->Int)(ps:Nat->Nat)(r k:Nat)(F:Nat->Int):Prop where
 bas:∀i,i<n->v i≤F i
 att:∀i,i<n->∃j,j<n/\(j=i∨Ao es j i)/\F i=v j
 don:∀i,i<n->ps i<r->∀j,j<n->(j=i∨Ao es j i)->v j≤F i
 cur:∀m a b,m<k->es[m]?=some (a,b)->ps b≤r->∀j,j<n->(j=a∨Ao es j a)->v j≤F b
def IN(F:Nat->Int)(a b:Nat):Nat->Int:=λi=>if i=b then max (F b) (F a) else F i
structure JW(n:Nat)(es:List Ln)(v:Nat->Int)(F:Nat->Int):Prop where
 up:∀i j,i<n->j<n->(j=i∨Ao es j i)->v j≤F i
 att:∀i,i<n->∃j,j<n/\(j=i∨Ao es j i)/\F i=v j
def Gb(es:List Ln):List Ln:=es.map λe=>(e.2,e.1)
end B
namespace B
open PySem PySem.Spec L2 PyProof.Rows
def Fu(r r' r'':R2)(ta tb tc td:TE):TE:=λσ H Q=>ta σ H λx H1=>tb σ H1 λy H2=>r x y H2 λz H3=>∃k,z=.bl k∧
 (if k=true then tc σ H3 λw' H4=>r' y w' H4 λz' H5=>∃k',z'=.bl k'/\(if k'=true then td σ H5 λu' H6=>r'' w' u' H6 Q else Q (.bl false) H5) else Q (.bl false) H3)
theorem be.atN{K:J5}{H:Hp}:∀{xs:List V} {ds:List Kv},be K H xs ds->∀{i:Nat} {d:Kv},ds[i]?=some d->∃x,xs[i]?=some x/\bS K H x d
 |_,_,.cons h _,0,d,e=>by
  rw[Ov] at e
  cases e
  exact⟨_,Z,h⟩
 |_,_,.cons _ t,i+1,d,e=>be.atN t (i:=i) (by rw[Ow] at e;exact e)
 |_,_,.nil,_,_,e=>by cases e
section
variable {prog:KZ}{w:Lk}{A:K3}{E:Value->Ka->Prop}{s:Ka}
end
def ID(K:J5)(te:TE):TE:=λσ H Q=>te σ H λx H1=>∃a xs,x=.ref a/\bH K H1 a xs/\∀p,H1 p=none->Q (.ref p) (av H1 p (.tup xs.reverse))
end B
namespace B
theorem ph{b:Int}(h:0<b):(0:Rat)<(b:Rat):=by
 have:=L7.mpr h;exact this
theorem fZ(hr:0<r.2)(hq:0<q.2):cy r q=true↔val r<val q:=by
 rw[wZ,←L7,KL,KL];have h1:=ph hr;have h2:=ph hq;have e1:(r.1:Rat)=val r*(r.2:Rat):=by
  have:=cw hr;unfold val;generalize (r.1:Rat)=x at *;generalize (r.2:Rat)=y at *;grind
 have e2:(q.1:Rat)=val q*(q.2:Rat):=by
  have:=cw hq;unfold val;generalize (q.1:Rat)=x at *;generalize (q.2:Rat)=y at *;grind
 rw[e1,e2];generalize val r=x at *;generalize val q=y at *;generalize (r.2:Rat)=u at *;generalize (q.2:Rat)=v at *;have c:0<u*v:=Rat.mul_pos h1 h2;constructor
 ·intro h;have h':x*(u*v)<y*(u*v):=by grind
  by_cases w:x<y
  ·exact w
  ·have z:y≤x:=Oq.mp w;have:=MD z (M7 c);grind
 ·intro h;have:=Lx h c;grind
theorem fL(hr:0<r.2)(hq:0<q.2):cy r q=false↔val q≤val r:=by
 have a:=fZ hr hq
 cases c:cy r q with
 |true=>
  have:=a.mp c;constructor
  ·intro z;cases z
  ·intro z;grind
 |false=>
  constructor
  ·intro _;by_cases w:val r<val q
   ·rw[a.mpr w] at c;cases c
   ·exact Oq.mp w
  ·intro _;rfl
end B
namespace B
open PySem PySem.Spec L2 PyProof.Rows
def JX(zs:List R):Prop:=zs.Pairwise λa b=>cy a b=true
end B
namespace L2
open PySem PySem.Spec PyProof.Rows
structure Fi(k:Nat)(A:K3):Prop where
 dp:A.depth+3*k+5<recursionLimit
 un:A.units+16*k+200<cLine
 gd:A.guards=some []
structure Ik(P:KZ)(w:Lk)(K:J5)(mg:K1->Option Value)(base:Kp)(CX:pH)(k:Nat)(f:Addr)(fd:Kh)(ps:List K1)(sp:Sp):Prop where
 len:∀vs H Q E,sp vs H Q E->vs.length=ps.length
 run:∀(A:K3) (outer:List SK) (s:Ka) (H:Hp) (args:Args) (us:List Value) (vs:List V) (Q:VK) (E:XK),Fi k A->pG P w K mg base A outer s H->Qo s fd args (ps.zip us)->aZ vs us->sp vs H Q E→
  OB (KF P w) A (.call (.ref f) args) (CR CX outer P w H s Q E) s
def JS(CX:pH)(P:KZ)(w:Lk)(K:J5)(mg:K1->Option Value)(base:Kp)(N:List K1)(qual:K1)(scope:Oa)(f:Addr)(cd:Value)(A:K3)(outer:List SK)(s:Ka)(H:Hp)(E:XK):Cx:={ bI CX P w K mg base N qual scope f cd A outer s H E with calm:=false}
section
variable {X:Cx}{CX:pH}{k:Nat}{f C:Addr}{fd:Kh}{ps:List K1}{sp:Sp}{dvs:List V}{ds:List Value}{E:XK}{x m:K1}{p pos apos:NW}{e o:Le}{es:List Le}{ta:TE}{t:TA}
end
section
variable {P:KZ}{w:Lk}{K:J5}{mg:K1->Option Value}{base:Kp}
end
end L2
namespace B
open PySem PySem.Spec L2 PyProof.Rows
section
set_option autoImplicit true
set_option relaxedAutoImplicit true
end
def Fq(d:Addr)(ob:LY)(kvs:List (cv×V)):It:=
 ⟨λi H=>H d=some (.frz ob (.dK kvs))/\i<kvs.length,
  λi H x H'=>∃p k v,H p=none/\x=.ref p/\kvs[i]?=some (k,v)/\H'=av H p (.tup [kV k,v]),
  λi H=>H d=some (.frz ob (.dK kvs))/\kvs.length≤i⟩
theorem KV.get:∀{kvs:List (cv×V)} {vs:List (cv×Value)},KV kvs vs->∀{i:Nat} {k:cv} {v:V},kvs[i]?=some (k,v)->∃u,vs[i]?=some (k,u)/\aY v u
 |_,_,.nil,i,k,v,h=>by simp at h
 | (a,b)::r,(c,d)::t,.cons h z,0,k,v,e=>by
  have e':(a,b)=(k,v):=by simpa using e
  cases e'
  obtain⟨h1,h2⟩:=h;have h1':a=c:=h1;subst h1';exact⟨d,Z,h2⟩
 |_::r,_::t,.cons h z,i+1,k,v,e=>by
  obtain⟨u,q,w⟩:=KV.get z (i:=i) (by simpa using e);exact⟨u,by simpa using q,w⟩
theorem AO(h:kj k u=true):aY (kV k) u:=by
 rcases bV h with⟨i,t,rfl,rfl⟩ | ⟨x,t,rfl,rfl⟩
 ·exact⟨t,Z⟩
 ·exact⟨t,Z⟩
theorem C8:S7 table "dict_itemiterator.__iter__"=some Ll.«dict_keyiterator.__iter__»:=
 QV (by kernel_rfl) (by first|rfl|decide +kernel | (unfold String.splitOn;simp +decide [String.splitOnAux])) (by decide +kernel) (by kernel_rfl) (id' := "dict_keyiterator.__iter__")
theorem pP{P:KZ}{w:Lk}{K:J5}{elts:List Le}{x1}{pos:NW}{it d:Addr}{ob:LY}{kvs:List (cv×V)}{es:Array Q2}{ep:Nat}(hob:ob.data=.dict es ep) :
  qP P w K (.Tuple elts x1 pos) (Fq d ob kvs) [it] it (λi h=>∃ok ov,IsItemIter h it d i kvs.length ep ok ov) where
 mem:=by simp
 obj:=λi h st c hc=>by
  obtain⟨ok,ov,e⟩:=st;rw[Ks] at hc;subst hc;exact⟨_,e,λv q=>by cases(show Sv _=Tp v from q)⟩
 keep:=λi h h' ⟨ok,ov,e⟩ k=>⟨ok,ov,k it (by simp) _ e⟩
 item:=by
  intro X hP hw hK hc i pins s σ H E I hf st hg;subst hP hw hK;obtain⟨hd,hi⟩:=hg;obtain⟨ok,ov,e⟩:=st;obtain⟨q0,z,hds,vs,rel,o,es',ep',d1,d2,d3,d4⟩:=(show bo X.prog X.w H s.heap d (.frz ob (.dK kvs)) from I.hok d _ hd);have eo:o=ob:=Lu (d1.symm.trans q0);subst eo;rw[hob] at d3
  cases d3
  have dat:s.heap.DictAt (bD X.prog X.w) d vs ep:=⟨o,es,d1,d2,hob,d4⟩;obtain⟨k,v,hkv'⟩:∃k v,kvs[i]?=some (k,v):=⟨(kvs[i]'hi).1,(kvs[i]'hi).2,J6 hi⟩;obtain⟨u,hu,ru⟩:=KV.get rel hkv';have ndi:it≠d:=λq=>by rw[q] at hf;have:=(hf d (by simp)).1;rw[hd] at this;cases this
  have itl:it<s.heap.objs.size:=Kx e;rw[rel.length] at e;refine wpAny_pyNext_items_item e dat hu λkey h1 hkey eo tup hz hk=>⟨_,Z,wpAny_letOwnedTupleGo_items eo λh2 e2 sb=>?_⟩
  have nt:s.heap.objs.size≠it:=NC itl;have P:bo X.prog X.w (av H s.heap.objs.size (.tup [kV k,v])) h2 s.heap.objs.size (.tup [kV k,v]):=
   ⟨by show 2≤sizeLine;decide,[key,u],.cons (AO hkey) (.cons ru .nil),⟨_,sb.extBut _ _ nt tup,Z,_,Z⟩⟩
  have I2:Inv X pins σ (av H s.heap.objs.size (.tup [kV k,v])) { s with heap:=h2,toks:=s.toks}:=qZ I (λc o' n q=>by
   have n':c≠it:=λr=>n (by simp[r])
   exact sb.extBut _ _ n' (hk c o' n' q)) hf (Kb _) P
  refine⟨.ref s.heap.objs.size,_,I2,Z,⟨_,k,v,I.fresh,Z,hkv',Z⟩,⟨key,u,by rw[rel.length];exact e2⟩,λc hc=>?_⟩;have hc':c=it:=by simpa using hc
  rw[hc',ak (M5 nt)];exact(hf it (by simp)).1
 done:=by
  intro X hP hw hK hc i pins s σ H E I hf st hg;subst hP hw hK;obtain⟨hd,hi⟩:=hg;obtain⟨ok,ov,e⟩:=st;obtain⟨q0,z,hds,vs,rel,o,es',ep',d1,d2,d3,d4⟩:=(show bo X.prog X.w H s.heap d (.frz ob (.dK kvs)) from I.hok d _ hd);have eo:o=ob:=Lu (d1.symm.trans q0);subst eo;rw[hob] at d3
  cases d3
  have dat:s.heap.DictAt (bD X.prog X.w) d vs ep:=⟨o,es,d1,d2,hob,d4⟩;have hh:X.A.in1.handled=none:=I.ok.hd hc;rw[rel.length] at e hi;refine wpAny_pyNext_items_end hh e dat (MA hi) λh1 ex=>⟨Z,?_⟩
  exact rc (t':=s.toks) I (λc o' n q=>ex c o' (λr=>n (by simp[r])) q) hf
 self:=λA i s Q E st h=>by
  obtain⟨ok,ov,e⟩:=st;have hT:s.TypeIs (.ref it) "dict_itemiterator" := ⟨_,e,Z⟩;refine PD hT Of (LV Of hT C8 ?_ (PySem.F.args_dict_itemiterator_iter_1 _));show Kz _ _ (ret (.ref it)) _ _ s;exact wpAny_pure ⟨_,Z,"dict_itemiterator",_,hT,PySem.F.slot_dict_itemiterator_next.lookup,h⟩
def xn(td:TE):TI:=λσ H R=>td σ H λx H1=>∃d kvs,x=.ref d/\H1 d=some (.dK kvs)/\∀ob,R (Fq d ob kvs) (av H1 d (.frz ob (.dK kvs)))
theorem wd{X:Cx}{elts:List Le}{x1}{tp apos pos:NW}{o:Le}{td:TE}(ho:PE X o td)(hb:MJ o "items" X.env (eval o X.env)=eval o X.env:=by rfl)(hl:(apos.endLine==pos.line)=true:=by rfl) :
  PI X (.Tuple elts x1 tp) (.Call (.Attribute o "items" apos) [] [] pos) (xn td):=by
 intro pins s σ H R I h;refine RT (T := "dict") (id := "dict.items") hb Z hl P7 P8 PySem.F.type_dict_items (bJ (ho pins s σ H _ I h) λu s1 ⟨x,H1,I1,rx,d,kvs,ex,e,q⟩=>?_);subst ex;obtain rfl:u=K7 d:=rx;obtain⟨z,hds,vs,rel,dd⟩:=xO I1.hok e;obtain⟨t1,t2,_⟩:=xk I1 (.inl ⟨kvs,.inl e⟩);refine⟨t1,t2,?_⟩;show Kz _ _ (RH pos (.builtin "dict.items") [.ref d] [] []) _ _ _;refine method_meetsIn P8 PySem.F.entry_dict_items Z (PySem.evalArgs_none ⟨Z,t1,PySem.F.args_dict_items_1 _,_,meets_dict_items (bD X.prog X.w) d hds,⟨vs,dd⟩,?_⟩);obtain⟨o',es,ep,d1,d2,d3,d4⟩:=id dd;have dat:s1.heap.DictAt (bD X.prog X.w) d vs ep:=⟨o',es,d1,d2,d3,d4⟩;refine wpAny_pyIter_items (d:=d) (kvs:=vs) (ep:=ep) ⟨_,Kq _ Z,Z,Z⟩ (dat.push _) ?_;have sz:(s1.heap.push { cls:=.type "dict_items",data:=.fields #[.ref d]}).objs.size=s1.heap.objs.size+1:=MP ..;have I2:=I1.kept (t':=s1.toks) (h':=(s1.heap.push { cls:=.type "dict_items",data:=.fields #[.ref d]}).push { cls:=.type "dict_itemiterator",data:=.fields #[.none,.bool false,.ref d,.int 0 0,.int vs.length 0,.int ep 0,.none,.none]}) λb o q=>Kd _ (Kd _ q)
 have hit:=Kq (s1.heap.push { cls:=.type "dict_items",data:=.fields #[.ref d]}) (o:={ cls:=.type "dict_itemiterator",data:=.fields #[.none,.bool false,.ref d,.int 0 0,.int vs.length 0,.int ep 0,.none,.none]}) Z;have dl:d<s1.heap.objs.size:=Kx d1;have k2:∀b o,s1.heap.get? b=some o->((s1.heap.push { cls:=.type "dict_items",data:=.fields #[.ref d]}).push { cls:=.type "dict_itemiterator",data:=.fields #[.none,.bool false,.ref d,.int 0 0,.int vs.length 0,.int ep 0,.none,.none]}).get? b=some o:=λb o q=>Kd _ (Kd _ q)
 generalize (s1.heap.push { cls:=.type "dict_items",data:=.fields #[.ref d]}).push { cls:=.type "dict_itemiterator",data:=.fields #[.none,.bool false,.ref d,.int 0 0,.int vs.length 0,.int ep 0,.none,.none]}=hE at I2 hit k2 ⊢;rw[sz] at hit ⊢;have I3:=jE (h':=hE) (t':=s1.toks) (ob:=.frz o' (.dK kvs)) I2 (by rw[e];exact MB) ⟨Z,λ_ _=>Z⟩ ⟨_,k2 _ _ d1⟩ ⟨k2 _ _ d1,z,hds,vs,rel,o',es,ep,k2 _ _ d1,d2,d3,d4⟩;have nd:s1.heap.objs.size+1≠d:=NC (LI dl);refine⟨_,[s1.heap.objs.size+1],_,_,_,Z,I3,pP d3,⟨.none,.none,by rw[rel.length];exact hit⟩,λc hc=>?_,q o'⟩;have hc':c=s1.heap.objs.size+1:=by simpa using hc
 subst hc';exact I1.fpOk (Nm _) (by rw[ak nd];exact I1.hok.fresh (Nm _))
theorem lJ{d:Addr}{ob:LY}{kvs:List (cv×V)}{g:TG}{tb:TS}{D:js}{σ:L2.St}{H:Hp}(Pv:Nat->L2.St->Hp->Prop)(h0:Pv 0 σ H)
  (hl:∀i σ H,Pv i σ H->H d=some (.frz ob (.dK kvs)))
  (hs:∀i k v p σ H,kvs[i]?=some (k,v)->Pv i σ H->H p=none->g (.ref p) σ (av H p (.tup [kV k,v])) λσ2 H2=>tb { D with nx:=Pv (i+1),ct:=Pv (i+1),bk:=D.nx} σ2 H2) (hd:∀σ H,Pv kvs.length σ H->D.nx σ H) :
  ∃W:Nat->Nat->L2.St->Hp->Prop,(∃m,W 0 m σ H)/\∀i m σ H,W i m σ H→
   ((Fq d ob kvs).stop i H/\D.nx σ H)∨((Fq d ob kvs).go i H/\∃N:L2.St->Hp->Prop,(∀σ' H',N σ' H'->∃m',m'<m/\W (i+1) m' σ' H')/\∀x H',(Fq d ob kvs).yld i H x H'->g x σ H' λσ2 H2=>tb { D with nx:=N,ct:=N,bk:=D.nx} σ2 H2):=by
 refine⟨λi m σ H=>m=kvs.length-i/\i≤kvs.length/\Pv i σ H,⟨_,Z,KJ _,h0⟩,?_⟩;rintro i m σ H ⟨rfl,hi,p⟩;have q:=hl i σ H p;by_cases hlt:i<kvs.length
 ·refine .inr ⟨⟨q,hlt⟩,Pv (i+1),λσ' H' p'=>⟨kvs.length-(i+1),by omega,Z,hlt,p'⟩,λx H' y=>?_⟩;obtain⟨pp,k,v,hp,rfl,hkv,rfl⟩:=y;exact hs i k v pp σ _ hkv p hp
 ·have e:i=kvs.length:=by omega
  subst e;exact .inl ⟨⟨q,Kb _⟩,hd σ H p⟩
def kQ(ps:List (Int×Int)):List (cv×V):=ps.map λp=>(KN p.1,V.int p.2)
def pQ:List (Int×Int)->Int->Int
 | [],_=>0
 | (c,u)::r,b=>if c=b then u else pQ r b
def fz:List (Int×Int)->Int->Int->List (Int×Int)
 | [],b,t=>[(b,0+t)]
 | (c,u)::r,b,t=>if c=b then(c,u+t)::r else(c,u)::fz r b t
theorem vX{p:cv×V}(e:p.1=k)(n:∀q∈r,q.1≠k):dZ (p:: r) k v=(k,v):: r:=by
 unfold dZ;rw[if_pos (by simp[e]),KH,if_pos e,e]
 congr 1
 exact(Nx (g:=id) (λq hq=>by rw[if_neg (n q hq)];rfl)).trans (PF r)
theorem tz{p:cv×V}(e:¬p.1=k):dZ (p:: r) k v=p:: dZ r k v:=by
 unfold dZ;rw[NS,decide_eq_false e,Rg]
 split
 ·rw[KH,if_neg e]
 ·rfl
theorem nB:∀(ps:List (Int×Int)) (b:Int),(dX (kQ ps) (KN b)).getD (V.int 0)=V.int (pQ ps b)
 | [],b=>rfl
 | (c,u)::r,b=>by
  show(dX ((KN c,V.int u)::kQ r) (KN b)).getD (V.int 0)=V.int (if c=b then u else pQ r b);by_cases e:c=b
  ·rw[if_pos e,dD (by rw[e])];rfl
  ·rw[if_neg e,dE (λz=>e (by injection z)),nB r b]
theorem mX:∀(ps:List (Int×Int)) (b t:Int),(ps.map (·.1)).Nodup->dZ (kQ ps) (KN b) (V.int (pQ ps b+t))=kQ (fz ps b t)
 | [],b,t,_=>rfl
 | (c,u)::r,b,t,nd=>by
  have nd':=Lo.mp nd;show dZ ((KN c,V.int u)::kQ r) (KN b) (V.int ((if c=b then u else pQ r b)+t))=kQ (if c=b then(c,u+t)::r else(c,u)::fz r b t);by_cases e:c=b
  ·rw[if_pos e,if_pos e,vX (by rw[e]) (λq hq z=>?_)]
   ·show _=(KN c,V.int (u+t))::kQ r;rw[e]
   ·obtain⟨p,hp,rfl⟩:=Kc.mp hq;have z':p.1=b:=by injection z
    exact nd'.1 (Kc.mpr ⟨p,hp,z'.trans e.symm⟩)
  ·rw[if_neg e,if_neg e,tz (λz=>e (by injection z)),mX r b t nd'.2];rfl
def gU:List (Int×Int)->Rat
 | []=>0
 |p::r=>(p.2:Rat)/(p.1:Rat)+gU r
theorem Ak{a b c:Rat}:(a+b)/c=a/c+b/c:=by rw[SA,SA,SA,Rat.add_mul]
theorem jM:∀(ps:List (Int×Int)) (b t:Int),gU (fz ps b t)=gU ps+(t:Rat)/(b:Rat)
 | [],b,t=>by
  show((0+t:Int):Rat)/(b:Rat)+0=0+(t:Rat)/(b:Rat);rw[MM];grind
 | (c,u)::r,b,t=>by
  show gU (if c=b then(c,u+t)::r else(c,u)::fz r b t)=(u:Rat)/(c:Rat)+gU r+(t:Rat)/(b:Rat);by_cases e:c=b
  ·rw[if_pos e];show((u+t:Int):Rat)/(c:Rat)+gU r=_;rw[Oi,Ak,e];grind
  ·rw[if_neg e];show(u:Rat)/(c:Rat)+gU (fz r b t)=_;rw[jM r b t];grind
theorem iR:∀(ps:List (Int×Int)) (p:Int×Int),gU (ps++[p])=gU ps+(p.2:Rat)/(p.1:Rat)
 | [],p=>by show(p.2:Rat)/(p.1:Rat)+0=0+_;grind
 |q::r,p=>by
  show(q.2:Rat)/(q.1:Rat)+gU (r++[p])=(q.2:Rat)/(q.1:Rat)+gU r+_;rw[iR r p];grind
structure jr(n i:Nat)(ps:List (Int×Int)):Prop where
 nd:(ps.map (·.1)).Nodup
 len:ps.length≤i
 bot:∀p∈ps,0<p.1/\p.1.natAbs<2^n
 top:∀p∈ps,p.2.natAbs≤i*2^n
theorem iI:∀(ps:List (Int×Int)) (b t:Int) (c:Int),c∈(fz ps b t).map (·.1)↔c∈ps.map (·.1)∨c=b
 | [],b,t,c=>by simp[fz]
 | (d,u)::r,b,t,c=>by
  show c∈(if d=b then(d,u+t)::r else(d,u)::fz r b t).map (·.1)↔_;by_cases e:d=b
  ·rw[if_pos e];constructor
   ·intro h;exact .inl h
   ·rintro (h|h)
    ·exact h
    ·exact Kn.mpr (.inl (h.trans e.symm))
  ·rw[if_neg e,KH,KH,Kn,Kn,iI r b t c];exact or_assoc.symm
theorem ye:∀(ps:List (Int×Int)) (b t:Int),(ps.map (·.1)).Nodup->((fz ps b t).map (·.1)).Nodup
 | [],b,t,_=>by simp[fz]
 | (d,u)::r,b,t,nd=>by
  have nd':=Lo.mp nd;show((if d=b then(d,u+t)::r else(d,u)::fz r b t).map (·.1)).Nodup;by_cases e:d=b
  ·rw[if_pos e];exact nd
  ·rw[if_neg e,KH,Lo];refine⟨λz=>?_,ye r b t nd'.2⟩;rcases(iI r b t d).mp z with h|h
   ·exact nd'.1 h
   ·exact e h
theorem sI:∀(ps:List (Int×Int)) (b t:Int),(fz ps b t).length≤ps.length+1
 | [],b,t=>Kb 1
 | (d,u)::r,b,t=>by
  show(if d=b then(d,u+t)::r else(d,u)::fz r b t).length≤_
  split
  ·exact Nm _
  ·exact Sq (sI r b t)
theorem sH:∀(ps:List (Int×Int)) (b t:Int) (M N:Nat),(∀p∈ps,p.2.natAbs≤M)->t.natAbs≤N->∀p∈fz ps b t,p.2.natAbs≤M+N
 | [],b,t,M,N,_,ht,p,hp=>by
  have e:p=(b,0+t):=by simpa [fz] using hp
  rw[e];show(0+t).natAbs≤M+N;omega
 | (d,u)::r,b,t,M,N,h,ht,p,hp=>by
  have hu:u.natAbs≤M:=h (d,u) Kf;have hr:∀q∈r,q.2.natAbs≤M:=λq hq=>h q (Km _ hq)
  have hp':p∈(if d=b then(d,u+t)::r else(d,u)::fz r b t):=hp
  split at hp'
  ·rcases Kn.mp hp' with e|e
   ·rw[e];show(u+t).natAbs≤M+N;omega
   ·have:=hr p e;omega
  ·rcases Kn.mp hp' with e|e
   ·rw[e];show u.natAbs≤M+N;omega
   ·exact sH r b t M N hr ht p e
theorem jr.add(h:jr n i ps)(w:Wf n r):jr n (i+1) (fz ps r.2 r.1) where
 nd:=ye ps r.2 r.1 h.nd
 len:=K5 (sI ps r.2 r.1) (Sq h.len)
 bot:=λp hp=>by
  rcases(iI ps r.2 r.1 p.1).mp (Kc.mpr ⟨p,hp,Z⟩) with z|z
  ·obtain⟨q,hq,e⟩:=Kc.mp z;rw[←e];exact h.bot q hq
  ·rw[z];exact⟨w.pos,w.bot⟩
 top:=λp hp=>by
  have:=sH ps r.2 r.1 (i*2^n) (2^n) h.top (MI w.top) p hp;rw[Nat.add_mul,Nat.one_mul];exact this
theorem jr.nil(n:Nat):jr n 0 []:=⟨Nz,Kb _,(λ_ h=>nomatch h),(λ_ h=>nomatch h)⟩
theorem jr.wf(h:jr n i ps)(hi:i≤255)(hp:p∈ps):Wf (n+8) (dk p.2 p.1):=by
 refine wT (h.bot p hp).1 ?_ (Ky (h.bot p hp).2 (Li (by decide) (by omega)));have a:=h.top p hp;have b:i*2^n≤255*2^n:=MQ _ hi;have c:0<2^n:=Nat.pow_pos (by decide);rw[QQ];omega
def jd:List R->Rat
 | []=>0
 |r::t=>val r+jd t
theorem iN:∀(rs:List R) (r:R),jd (rs++[r])=jd rs+val r
 | [],r=>by show val r+0=0+val r;grind
 |q::t,r=>by show val q+jd (t++[r])=val q+jd t+val r;rw[iN t r];grind
theorem dC:∀(rs:List R) (acc:R),eh acc->(∀r∈rs,eh r)->eh (rs.foldl bj acc)/\val (rs.foldl bj acc)=val acc+jd rs
 | [],acc,ha,_=>⟨ha,by show val acc=val acc+0;grind⟩
 |r::t,acc,ha,h=>by
  have hr:=h r Kf;obtain⟨a,b⟩:=dC t (bj acc r) (oB ha hr) λq hq=>h q (Km _ hq)
  refine⟨a,?_⟩;rw[NO,b,fY ha.pos hr.pos];show val acc+val r+jd t=val acc+(val r+jd t);grind
theorem gT:val (0,1)=0:=by decide +kernel
theorem qi:eh (0,1):=⟨by decide,by decide⟩
theorem qY(h:∀r∈rs,eh r):eh (cN rs)/\val (cN rs)=jd rs:=by
 obtain⟨a,b⟩:=dC rs (0,1) qi h;refine⟨a,b.trans ?_⟩;rw[gT];grind
theorem uD(h:∀r∈rs,eh r)(hx:eh x)(e:val x=jd rs):x=cN rs:=
 dr hx (qY h).1 (e.trans (qY h).2.symm)
theorem Wf.red(h:Wf n r):eh r:=⟨h.pos,h.cop⟩
section
set_option autoImplicit true
set_option relaxedAutoImplicit true
theorem j3   : QE X (.Dict [] [] pos) uy:=⟨wA ⟩
theorem vU(hu:X.A.units+1<cLine)(ho:QE X o td)(he:QE X e ty)(hf:QE X f tx)(m:M2 X o "get" apos e f cpos):QE X (.Call (.Attribute o "get" apos) [e,f] [] cpos) (uz td ty tx):=⟨wC hu ho.p he.p hf.p m⟩
theorem ju(hu:X.A.units+1<cLine)(ho:QE X o td)(hi:QE X i ty)(hv:QE X value tv)(hs:NQ value (some (.Subscript o i pos')) pos.line X.env=Mz false):QS X (.Assign [.Subscript o i pos'] value pos) (AG td ty tv):=⟨zb hu ho.p hi.p hv.p hs⟩
theorem vO{X:Cx}{elts:List Le}{x1}{tp apos pos:NW}{o:Le}{td:TE}(ho:QE X o td)(hb:MJ o "items" X.env (eval o X.env)=eval o X.env:=by rfl)(hl:(apos.endLine==pos.line)=true:=by rfl):QI X (.Tuple elts x1 tp) (.Call (.Attribute o "items" apos) [] [] pos) (xn td):=⟨wd ho.p hb hl⟩
end
end B
namespace B
abbrev Pl:=Nat×Nat
def zR(p:Pl):Int:=(p.2:Int)-p.1+1
def Dz(p q:Pl):Prop:=p.1<q.1∨(p.1=q.1/\q.2≤p.2)
structure J4(S:Pl->Prop)(L:Pl->Int)(p:Pl):Prop where
 inn:S p
 all:∀q,S q->L q*zR p<L p*zR q∨(L q*zR p=L p*zR q/\Dz p q)
def Ih(n:Nat)(p:Pl):Prop:=p.1≤p.2/\p.2<n
def Ig(n b e:Nat)(p:Pl):Prop:=Ih n p/\(p.1<b∨(p.1=b/\e≤p.2))
def Ie(n b e:Nat)(p:Pl):Prop:=Ih n p/\(p.1<b∨(p.1=b/\p.2<e))
abbrev Wn:=Option (Nat×Nat)
def EV(b e:Nat):Wn->Bool
 |none=>false
 |some (x,y)=>decide (b≤x)&&decide (y≤e)
def EW(ws:List Wn)(p:Pl):List Nat:=(J9 ws.length).filter λi=>EV p.1 p.2 (ws.getD i none)
def Hq(ws:List Wn)(A:Nat->Int)(p:Pl):Int:=((EW ws p).map A).sum
end B
namespace B
open PySem PySem.Spec L2 PyProof.Rows
def bC(ns:List Int):List Int:=ns.foldl ME []
theorem qj(ns:List Int):(J9 ns.length).map (λi=>ns.getD i 0)=ns:=by
 apply P9
 ·simp
 ·intro i h1 h2;rw[Nb,Pm,KQ,J6 h2];rfl
theorem oW(ns:List Int):RW (λi=>ns.getD i 0) ns.length=bC ns:=by
 unfold RW bC;rw[qj]
theorem dI:∀(ns σ:List Int),σ.Nodup->(ns.foldl ME σ).Nodup/\(∀k,k∈ns.foldl ME σ↔k∈σ∨k∈ns)/\(ns.foldl ME σ).length≤σ.length+ns.length∧
  ((ns.foldl ME σ).length=σ.length+ns.length↔(σ++ns).Nodup)
 | [],σ,h=>⟨h,λk=>by simp,by simp,by simp[h]⟩
 |n::ns,σ,h=>by
  rw[NO];by_cases c:σ.any (·==n)=true
  ·have e:ME σ n=σ:=by unfold ME;rw[if_pos c]
   rw[e];obtain⟨a1,a2,a3,a4⟩:=dI ns σ h;have hm:n∈σ:=by
    obtain⟨x,hx,q⟩:=OM.mp c;rw[←show x=n from by simpa using q];exact hx
   refine⟨a1,λk=>?_,by rw[Lb];omega,?_⟩
   ·rw[a2,Kn];constructor
    ·rintro (h|h)
     ·exact .inl h
     ·exact .inr (.inr h)
    ·rintro (h|h|h)
     ·exact .inl h
     ·rw[h];exact .inl hm
     ·exact .inr h
   ·constructor
    ·intro q;rw[Lb] at q;omega
    ·intro q;exact absurd Z ((No.mp q).2.2 n hm n Kf)
  ·have e:ME σ n=σ++[n]:=by unfold ME;rw[if_neg c]
   rw[e];have hm:n∉σ:=λhx=>c (OM.mpr ⟨n,hx,by simp⟩)
   have h':(σ++[n]).Nodup:=No.mpr ⟨h,by simp,λa ha b hb=>by
    rw[Ks] at hb;intro z;rw[z,hb] at ha;exact hm ha⟩
   obtain⟨a1,a2,a3,a4⟩:=dI ns (σ++[n]) h';refine⟨a1,λk=>?_,?_,?_⟩
   ·rw[a2,KG,Ks,Kn,or_assoc]
   ·rw[Ko,Ld] at a3;rw[Lb];omega
   ·rw[Ko,Ld,Mt] at a4;rw[←show [n]++ns=n::ns from Z,←a4,Ko,Ld];omega
theorem fk(ns:List Int):(bC ns).Nodup:=(dI ns [] (by simp)).1
theorem gi(ns:List Int)(k:Int):k∈bC ns↔k∈ns:=by
 have:=(dI ns [] (by simp)).2.1 k;unfold bC
 simpa using this
theorem qo(ns:List Int):(bC ns).length≤ns.length:=by
 have:=(dI ns [] (by simp)).2.2.1;unfold bC
 simpa using this
def Hc(K:J5):List V->Hp->VK->Prop:=λxs H Q=>∃p ns,xs=[.ref p]/\aO K H p (ns.map V.int)/\ns.length≤1000/\∀l,H l=none->Q (.ref l) (av H l (.set (λk=>(bC ns).any (·==k)) (bC ns).length))
def Hg:List V->Hp->VK->Prop:=λxs H Q=>∃p S n,xs=[.ref p]/\H p=some (.set S n)/\Q (.int n) H
def iZ(xs:Array Nat):Prop:=∀i j (_:i<j) (hj:j<xs.size),xs[i]'(by omega)<xs[j]
theorem kG{xs:Array Nat}{j:Nat}:∀(fuel lo hi:Nat),lo≤hi->hi≤xs.size->hi-lo≤fuel->iZ xs->(∀i (h:i<xs.size),i<lo->xs[i]<j)->(∀i (h:i<xs.size),hi≤i->j≤xs[i])→
  lo≤SetTable.below.go xs j fuel lo hi/\SetTable.below.go xs j fuel lo hi≤hi/\(∀i (h:i<xs.size),i<SetTable.below.go xs j fuel lo hi->xs[i]<j)/\(∀i (h:i<xs.size),SetTable.below.go xs j fuel lo hi≤i->j≤xs[i])
 |0,lo,hi,h1,h2,h3,_,a,b=>by
  unfold SetTable.below.go;exact⟨Kb _,h1,a,λi h q=>b i h (by omega)⟩
 |fuel+1,lo,hi,h1,h2,h3,R,a,b=>by
  unfold SetTable.below.go;by_cases c:lo<hi
  ·rw[if_pos c];have hm:(lo+hi)/2<xs.size:=by omega
   have e:xs.getD ((lo+hi)/2) j=xs[(lo+hi)/2]:=by simp[Pn,hm]
   dsimp only;rw[e];by_cases d:xs[(lo+hi)/2]<j
   ·rw[if_pos d];obtain⟨c1,c2,c3,c4⟩:=kG fuel ((lo+hi)/2+1) hi (by omega) h2 (by omega) R (λi h q=>by
     by_cases z:i=(lo+hi)/2
     ·subst z;exact d
     ·exact N8 (R i ((lo+hi)/2) (by omega) hm) d) b
    exact⟨by omega,c2,c3,c4⟩
   ·rw[if_neg d];obtain⟨c1,c2,c3,c4⟩:=kG fuel lo ((lo+hi)/2) (by omega) (by omega) (by omega) R a (λi h q=>by
     by_cases z:i=(lo+hi)/2
     ·subst z;omega
     ·have:=R ((lo+hi)/2) i (by omega) h;omega)
    exact⟨c1,by omega,c3,c4⟩
  ·rw[if_neg c];exact⟨Kb _,h1,a,λi h q=>b i h (by omega)⟩
theorem kD(R:iZ xs)(j:Nat):SetTable.below xs j≤xs.size/\(∀i (h:i<xs.size),i<SetTable.below xs j->xs[i]<j)/\(∀i (h:i<xs.size),SetTable.below xs j≤i->j≤xs[i]):=by
 have:=kG (xs:=xs) (j:=j) xs.size 0 xs.size (KJ _) (Kb _) (by omega) R (λi h q=>by omega) (λi h q=>by omega);exact this.2
theorem kH(R:iZ xs)(hi:i≤xs.size)(lo:∀k (h:k<xs.size),k<i->xs[k]<j)(hi':∀k (h:k<xs.size),i≤k->j≤xs[k]):SetTable.below xs j=i:=by
 obtain⟨a,b,c⟩:=kD R j;rcases Nat.lt_trichotomy (SetTable.below xs j) i with h|h|h
 ·have h1:=c (SetTable.below xs j) (by omega) (Kb _);have h2:=lo (SetTable.below xs j) (by omega) h;omega
 ·exact h
 ·have h1:=b i (by omega) h;have h2:=hi' i (by omega) (Kb _);omega
theorem qI(R:iZ xs):SetTable.below xs 0=0:=kH R (KJ _) (λ_ _ h=>by omega) (λ_ _ _=>KJ _)
theorem qK(R:iZ xs)(h:i<xs.size):SetTable.below xs (xs[i]+1)=i+1:=
 kH R h (λk hk q=>by
  by_cases z:k=i
  ·subst z;omega
  ·exact LI (R k i (by omega) h)) (λk hk q=>R i k (by omega) hk)
theorem uh(R:iZ xs)(h:i<xs.size):SetTable.below xs xs[i]=i:=
 kH R (MI h) (λk hk q=>R k i q h) (λk hk q=>by
  by_cases z:k=i
  ·subst z;omega
  ·exact MI (R i k (by omega) hk))
theorem jn{t:SetTable}(R:iZ t.place)(h:t.slot j=.empty):∀i (q:i<t.place.size),t.place[i]≠j:=by
 intro i q e;unfold SetTable.slot at h;dsimp only at h;rw[←e,uh R q] at h;simp[q] at h
theorem ou(R:iZ xs)(n:∀i (q:i<xs.size),xs[i]≠j):iZ (SetTable.insertAt xs (SetTable.below xs j) j):=by
 obtain⟨a,b,c⟩:=kD R j;have el:=SetTable.toList_insertAt xs (SetTable.below xs j) j;have P:xs.toList.Pairwise (· < ·):=by
  rw[Ni];intro i k hi hk q;exact R i k q (by simpa using hk)
 suffices S:(SetTable.insertAt xs (SetTable.below xs j) j).toList.Pairwise (· < ·) by
  rw[Ni] at S;intro i k q hk;exact S i k (by simpa using N8 q hk) (by simpa using hk) q
 rw[el];have s1:∀x∈xs.toList.take (SetTable.below xs j),x<j:=by
  intro x hx;obtain⟨i,hi,rfl⟩:=Lj.mp hx;rw[PH];have hi2:i<SetTable.below xs j:=by rw[K0] at hi;omega
  exact b i (by omega) hi2
 have s2:∀x∈xs.toList.drop (SetTable.below xs j),j<x:=by
  intro x hx;obtain⟨i,hi,rfl⟩:=Lj.mp hx;rw[List.getElem_drop];rw[OK,Lg] at hi;have h1:=c (SetTable.below xs j+i) (by omega) (by omega);have h2:=n (SetTable.below xs j+i) (by omega);show j<xs[SetTable.below xs j+i];omega
 rw[List.pairwise_append];refine⟨P.sublist (RI _ _),Nd.mpr ⟨s2,P.sublist (List.drop_sublist _ _)⟩,λx hx y hy=>?_⟩;rcases Kn.mp hy with rfl|hy
 ·exact s1 x hx
 ·exact N8 (s1 x hx) (s2 y hy)
theorem lI(j:Nat):SetTable.has #[] j=false:=by
 unfold SetTable.has;simp
theorem j6{t:SetTable}(hd:t.dummies=#[])(h:Int):∀(fuel:Nat) (p:SetTable.Probe) (m:SetTable.Met),p.dummy=none->SetTable.probe.go t (λ_=>h+1) h fuel p=some m->∃j,m=.empty j none/\t.slot j=.empty
 |0,p,m,_,e=>by unfold SetTable.probe.go at e;cases e
 |fuel+1,p,m,z,e=>by
  unfold SetTable.probe.go at e
  split at e
  ·rename_i hs
   cases e
   exact⟨p.j,by rw[z],hs⟩
  ·rename_i hs;unfold SetTable.slot at hs;dsimp only at hs;rw[hd,lI] at hs
   split at hs<;>simp at hs
  ·rw[if_neg (by simp;omega)] at e;refine j6 hd h fuel _ m ?_ e;unfold SetTable.advance
   split<;>exact z
theorem kP{t:SetTable}(hd:t.dummies=#[])(e:t.freeSlot h=some (j,b)):t.slot j=.empty:=by
 unfold SetTable.freeSlot at e
 cases q:t.probe (λ_=>h+1) h (t.probeStart h) with
 |none=>rw[q] at e;cases e
 |some m=>
  obtain⟨j',rfl,hs⟩:=j6 hd h _ _ m Z q;rw[q] at e;simp only[P5,Option.isSome_none,RY,Tg] at e;rw[←e.1];exact hs
def qQ(t:SetTable):Prop:=t.plain=true->t.dummies=#[]/\iZ t.place
theorem pR(a b:Nat)(led:Bool):qQ (.fresh a b led):=λ_=>⟨Z,λi j h hj=>absurd hj (by simp[SetTable.fresh])⟩
theorem nS(T:qQ t)(es:Array (Int×Value))(h:Int)(x:Value):qQ (Tw t es h x).2.1/\(Tw t es h x).2.1.led=t.led:=by
 unfold Tw
 split
 ·rename_i j b e;dsimp only;unfold SetTable.orStandIn
  split
  ·refine⟨λhp=>?_,Z⟩;have hp':t.plain=true:=hp;obtain⟨d,R⟩:=T hp';refine⟨?_,ou R (jn R (kP d e))⟩;show(if SetTable.has t.dummies j then _ else t.dummies)=#[];rw[d,lI];rfl
  ·exact⟨λhp=>absurd hp (by simp[SetTable.standIn]),Z⟩
 ·exact⟨λhp=>absurd hp (by simp[SetTable.standIn]),Z⟩
theorem tf(n:Nat)(f:Nat->Option Nat):iZ ((((J9 n).filterMap λj=>(f j).map (j,·)).map (·.1)).toArray):=by
 have S:(((J9 n).filterMap λj=>(f j).map (j,·)).map (·.1)).Pairwise (· < ·):=by
  rw[List.map_filterMap];refine Te.filterMap _ (R:=(· < ·)) (λa b h x hx y hy=>?_) NG;simp only[QX,LR] at hx hy;obtain⟨_,_,rfl⟩:=hx;obtain⟨_,_,rfl⟩:=hy;exact h
 intro i k q hk;rw[Ni] at S;simp only[List.getElem_toArray];exact S i k (by simpa using N8 q hk) (by simpa using hk) q
theorem kJ(es:Array (Int×Value))(n:Nat):qQ (Qa t es n).2.1/\(Qa t es n).2.1.led=t.led:=by
 unfold Qa
 split
 ·rename_i t' order e;dsimp only
  split
  ·unfold SetTable.relaid SetTable.laid at e
   cases q:SetTable.layClean (SetTable.sizeAbove n-1) (es.map (·.1)) with
   |none=>rw[q] at e;cases e
   |some owner=>
    rw[q] at e;simp only[Option.bind_eq_bind,Option.bind_some,Option.pure_def,RY,Tg] at e;obtain⟨rfl,_⟩:=e;exact⟨λ_=>⟨Z,tf _ _⟩,Z⟩
  ·exact⟨λhp=>absurd hp (by simp[SetTable.standIn]),Z⟩
 ·exact⟨λhp=>absurd hp (by simp[SetTable.standIn]),Z⟩
theorem kq{α:Type}{l:List α}{i:Nat}(h:i<l.length):Q5 (l[i]::l.eraseIdx i) l:=by
 rw[List.eraseIdx_eq_take_drop_succ];have e:l=l.take i++l[i]::l.drop (i+1):=by rw[List.getElem_cons_drop,List.take_append_drop]
 exact(List.perm_middle.symm).trans (.of_eq e.symm)
theorem i6{α:Type}(next:Nat->Nat):∀(fuel k:Nat) (left:List α) (out:Array α),left.length=fuel->Q5 (RZ next fuel k left out).toList (out.toList++left)
 |0,k,left,out,h=>by
  unfold RZ;rw[LL.mp h,LF]
 |fuel+1,k,left,out,h=>by
  unfold RZ;have hm:next k%left.length<left.length:=Nat.mod_lt _ (by omega);rw[J6 hm];dsimp only;refine(i6 next fuel (k+1) (left.eraseIdx (next k%left.length)) (out.push left[next k%left.length]) (by rw[Po hm];omega)).trans ?_;rw[R0,Mt];refine Q5.append_left _ ?_;exact kq hm
theorem tF(next:Nat->Nat)(xs:Array α):Q5 (Pb next xs).toList xs.toList:=by
 unfold Pb;have:=i6 next xs.size 0 xs.toList #[] (by simp)
 simpa using this
section
variable {prog:KZ}{w:Lk}{A:K3}{E:Value->Ka->Prop}{s:Ka}
def mf:Value->Int
 | .int n _=>n
 |_=>0
def cj(w:Lk)(h:Kp)(a:Addr)(ks:List Int):Prop:=∃o es ep t,h.get? a=some o/\o.ExactSet/\o.data=.set es ep t/\(∀e∈es.toList,∃n u,e=(Oy n,Mf n u))∧
 (es.toList.map λe=>mf e.2).Perm ks/\t.fits es.size=true/\qQ t/\t.led=!w.params.followText "set-order"
theorem cj.at(I:cj w h a ks)(k:∀o,h.get? a=some o->h'.get? a=some o):cj w h' a ks:=by
 obtain⟨o,es,ep,t,ho,r⟩:=I;exact⟨o,es,ep,t,k o ho,r⟩
theorem xL(h:∀e∈es,∃n u,e=(Oy n,Mf n u)):ElemsOf (Qi prog w) es:=by
 intro e he;obtain⟨n,u,rfl⟩:=h e he;exact⟨⟨n,S8 _ _ _ _,Z⟩,Z⟩
theorem xj:(Qi prog w).is k (.int n u)=decide (k=n):=by
 show QJ k (.int n u)=_;unfold QJ;by_cases e:k=n
 ·subst e;simp
 ·rw[decide_eq_false e]
  simpa using λz:n=k=>e z.symm
theorem oP(ho:s.heap.get? a=some o)(hx:o.ExactSet)(hd:o.data=.set es ep t)
  (h1:∀e∈es'.toList,∃n u,e=(Oy n,Mf n u)) (h2:(es'.toList.map λe=>mf e.2).Perm ks) (h3:t'.fits es'.size=true) (h4:qQ t') (h5:t'.led=!w.params.followText "set-order"):
  (s.heap.update a (Pp es' t')).get? a=some { o with data:=.set es' (ep+1) t'}/\cj w (s.heap.update a (Pp es' t')) a ks:=by
 have hg:(s.heap.update a (Pp es' t')).get? a=some { o with data:=.set es' (ep+1) t'}:=by
  have:=LX (Pp es' t') ho (by rw[putSet_of es' t' hd];rfl);rw[putSet_of es' t' hd] at this;exact this
 exact⟨hg,_,es',ep+1,t',hg,hx,Z,h1,h2,h3,h4,h5⟩
theorem CZ(I:cj w s.heap a ks)(hb:ks.length+1<scanBound)
  (h:∀b h',LH a s.heap h'->cj w h' a (ME ks k)->Q b { s with heap:=h'}):Kz (KF prog w) A (setAddHashed a (.int k u) (Oy k)) Q E s:=by
 obtain⟨o,es,ep,t,ho,hx,hd,hs,hp,hf,T,hl⟩:=I;have hn:es.size=ks.length:=by rw[←hp.length_eq,J7,Lg]
 have hel:ElemsOf (Qi prog w) es.toList:=xL hs;have hb0:es.size<scanBound:=by omega
 unfold setAddHashed setAddHashedIn;refine wpAny_holding (J8 (Np ho hd hf ?_));dsimp only;rw[byScan_of (knd:=Qi prog w) (x:=.int k u) Z hb0 hel];simp only[↓reduceIte];unfold setAddByScan;refine J8 (J8 (Rn (J8 (wpAny_setScan_of (knd:=Qi prog w) (k:=k) (S8 _ _ _ _) ho hd hf hel ?_))))
 cases hr:List.findIdx? (λe=>(Qi prog w).is k e.2) es.toList with
 |some j=>
  dsimp only;obtain⟨hj,hpj,_⟩:=List.findIdx?_eq_some_iff_getElem.mp hr;obtain⟨n,v,e⟩:=hs _ (K6 hj);have hk:k∈ks:=by
   refine hp.mem_iff.mp (Kc.mpr ⟨_,K6 hj,?_⟩);rw[e] at hpj ⊢;rw[xj] at hpj;exact(of_decide_eq_true hpj).symm
  have hd':ME ks k=ks:=by unfold ME;rw[if_pos (OM.mpr ⟨k,hk,by simp⟩)]
  refine wpAny_pure (wpAny_pure ?_);have:=h false s.heap (LH.refl a s.heap) (by rw[hd'];exact⟨o,es,ep,t,ho,hx,hd,hs,hp,hf,T,hl⟩);have e:s={ s with heap:=s.heap}:=by cases s;rfl
  rw[e];exact this
 |none=>
  dsimp only;have hk:k∉ks:=λz=>by
   obtain⟨e,he,q⟩:=Kc.mp (hp.mem_iff.mpr z);have:=List.findIdx?_eq_none_iff.mp hr e he;obtain⟨n,v,rfl⟩:=hs e he;rw[xj] at this;exact(of_decide_eq_false this) q.symm
  have hd':ME ks k=ks++[k]:=by
   unfold ME;rw[if_neg (λz=>by obtain⟨x,m,q⟩:=OM.mp z;exact hk (by rw[←show x=k from by simpa using q];exact m))]
  rw[hd'] at h;have hperm:=layNew_perm t es (Oy k) (.int k u);have hfits:=layNew_fits t es (Oy k) (.int k u);have htidy:=nS T es (Oy k) (.int k u);show Kz _ _ (match Tw t es (Oy k) (.int k u) with | (es,t,wasDummy,gave)=>_) _ _ _;generalize Tw t es (Oy k) (.int k u)=L at hperm hfits htidy ⊢;obtain⟨es1,t1,dm,gave⟩:=L;dsimp only at hperm hfits htidy ⊢;rw[R0] at hperm;have s1:∀e∈es1.toList,∃n u,e=(Oy n,Mf n u):=λe he=>by
   rcases KG.mp (hperm.mem_iff.mp he) with q|q
   ·exact hs e q
   ·exact⟨k,u,Ks.mp q⟩
  have p1:(es1.toList.map λe=>mf e.2).Perm (ks++[k]):=by
   refine(hperm.map _).trans ?_;rw[Ku];exact hp.append (.refl _)
  have n1:es1.size=ks.length+1:=by rw[←Lg,hperm.length_eq,Ko,Lg,hn];rfl
  have z1:es1.size≤sizeLine:=fits_of_scanBound (by omega);have gw:∀(b:Bool) {s₁:Ka} {Q':Unit->Ka->Prop},Q' () s₁->Kz (KF prog w) A (match b with|true=>rule "set.scan.the-table-gave-way" |false=>Mz ()) Q' E s₁:=
   λb s₁ Q' hq=>by cases b<;>first|exact wpAny_pure hq|exact Rn hq
  have tail:∀(t2:SetTable) (R:Option Bool->Ka->Prop),t2.fits es1.size=true->qQ t2->t2.led=t.led->(∀h',LH a s.heap h'->cj w h' a (ks++[k])->R (some true) { s with heap:=h'})→
    Kz (KF prog w) A (do
     storeSet a es1 t2
     if(!dm&&t2.tooFull)=true then do
       (match (Qa t2 es1 (SetTable.grown es1.size)).2.2 with|true=>rule "set.scan.the-table-gave-way" |false=>Mz ())
       storeSet a (Qa t2 es1 (SetTable.grown es1.size)).1 (Qa t2 es1 (SetTable.grown es1.size)).2.1
       Mz (some true)
      else Mz (some true)) R E s:=by
   intro t2 R f2 T2 l2 hR;refine J8 (R1 ho hd ?_ z1);obtain⟨g1,I1⟩:=oP (w:=w) (ks:=ks++[k]) ho hx hd s1 p1 f2 T2 (l2.trans hl);have b1:=Ma s.heap a (Pp es1 t2)
   split
   ·have hp2:=relayAll_perm t2 es1 (SetTable.grown es1.size);have hf2:=relayAll_fits t2 es1 (SetTable.grown es1.size);have ht2:=kJ (t:=t2) es1 (SetTable.grown es1.size);generalize Qa t2 es1 (SetTable.grown es1.size)=Rl at hp2 hf2 ht2 ⊢;obtain⟨es2,t3,gv⟩:=Rl;dsimp only at hp2 hf2 ht2 ⊢;have n2:es2.size=es1.size:=by rw[←Lg,hp2.length_eq,Lg]
    refine J8 (gw _ (J8 (R1 g1 Z (wpAny_pure (hR _ (b1.trans (Ma _ a _)) ?_)) (by rw[n2];exact z1))));exact(oP (s:={ s with heap:=s.heap.update a (Pp es1 t2)}) (w:=w) (ks:=ks++[k]) g1 hx rfl (λe he=>s1 e (hp2.mem_iff.mp he)) ((hp2.map _).trans p1) hf2 ht2.1 (ht2.2.trans (l2.trans hl))).2
   ·exact wpAny_pure (hR _ b1 I1)
  refine J8 (gw _ ?_)
  split
  ·refine J8 ?_;rw[hashByValue_scannable 8 (x:=.int k u) Z];refine wpAny_pure ?_;exact tail _ _ hfits htidy.1 htidy.2 λh' b i=>wpAny_pure (h true h' b i)
  ·refine J8 (wpAny_pure ?_);simp only[↓reduceIte];exact tail _ _ hfits htidy.1 htidy.2 λh' b i=>wpAny_pure (h true h' b i)
end
section
variable {prog:KZ}{w:Lk}{A:K3}{E:Value->Ka->Prop}{s:Ka}
def bK(w:Lk):LY:={ cls:=.type "set",dict:=none,data:=.set #[] 0 (.fresh 0 0 (!w.params.followText "set-order"))}
theorem oQ(e:h.get? a=some (bK w)):cj w h a []:=
 ⟨_,#[],0,_,e,⟨Z,Z,Z⟩,Z,λe h=>by simp at h,.refl _,Z,pR _ _ _,Z⟩
theorem CY(v:Value)(h:Q₁ (.ref s.heap.objs.size) { s with heap:=s.heap.push (bK w)}):
  OB (KF prog w) A (.call (.builtin "set.__new__") ⟨[.type "set",v],[]⟩) (wants Q₁ E) s:=by
 refine codeAny_of_tree ?_;show Kz _ A.in1 (do checkBuiltinCall "set.__new__" ⟨[.type "set",v],[]⟩;again (.builtin "set.__new__" ⟨[.type "set",v],[]⟩)) _ _ s;refine J8 (SB (PySem.F.newCall_set_1 v) (wpAny_pure ⟨PX QC _,NP PySem.F.entry_set_new ?_⟩));rw[Nq QC _];unfold Ll.«set.__new__» Ll.Frozenset.newClass;have hsub:=sub_set_self;obtain⟨hp,g,d,tk,os⟩:=s;dsimp only
 wp_walk
 refine Qb (wpAny_pure ?_);dsimp only;simp only[newObj];exact J8 (wpAny_alloc (wpAny_pure (wpAny_pure h)))
variable {R:SQ->Ka->Prop}{I:Addr}{fp wr:List Addr}{G:Array GenState->Array GenState->Prop}{n:Nat}{P:Nat->Value->Prop}{St:Nat->Ka->Prop}
theorem rS(W:WalksS prog w A.in1 I fp wr G n P St)(S:Addr)(hSf:S∉fp)(val:Nat->Int)(hval:∀i v,P i v->∃t,v=.int (val i) t)(hb:n+1<scanBound) :
  ∀(k i:Nat) (s:Ka),n-i=k->i≤n->St i s->cj w s.heap S (RW val i)→
   (∀s',Moved (S::wr) G s s'->cj w s'.heap S (RW val n)->R (.ok (.ret .none)) s')->OB (KF prog w) A (.builtin "set.update.loop" ⟨[.ref S,.ref I],[]⟩) R s:=by
 have hSw:S∉wr:=λh=>hSf (W.sub _ h)
 have hsub:∀b∈wr,b∈S::wr:=λb hb=>Km _ hb
 intro k
 induction k with
 |zero=>
  intro i s hk hi hst hS hR;obtain rfl:i=n:=by omega
  refine NP Oe ?_;rw[Nq M4 _];show Kz _ A.in1 (OI (.ref I) >>= _) _ _ s;refine J8 (W.done s _ _ hst λs' hm=>?_);exact wpAny_pure (hR s' (hm.mono hsub) (hS.at λo e=>hm.heap S _ hSw e))
 |succ k ih=>
  intro i s hk hi hst hS hR;refine NP Oe ?_;rw[Nq M4 _];show Kz _ A.in1 (OI (.ref I) >>= _) _ _ s;refine J8 (W.item i s _ _ (by omega) hst λv s' hP hst' hm=>?_);obtain⟨t,rfl⟩:=hval i v hP;show Kz _ A.in1 (holding [Mf (val i) t] (setAdd S (.int (val i) t)) >>= _) _ _ s';refine J8 (wpAny_holding ?_);unfold setAdd;refine wpAny_holding (J8 ((Qi prog w).pyHash (k:=val i) (S8 _ _ _ _) ?_));refine CZ (s:={ s' with toks:=s'.toks+1}) (hS.at λo e=>hm.heap S _ hSw e) (by have:=firstMet_length_le val i;omega) λb h' hsb hS2=>?_
  rw[←firstMet_succ] at hS2;refine wpAny_pure ⟨PX M4 _,ih (i+1) _ (by omega) (by omega) (W.frame _ s' _ _ hst' (Nm _) λb hb o e=>?_) hS2 λs'' hm'' hS''=>?_⟩
  ·rw[hsb.2 b (λh:b=S=>hSf (by rw[←h];exact hb))];exact e
  ·refine hR s'' (Moved.trans W.gtrans ((hm.mono hsub).then_heap (Nm _) λb o hb e=>?_) hm'') hS'';rw[hsb.2 b (λh:b=S=>hb (by rw[h];exact Kf))];exact e
end
section
variable {prog:KZ}{w:Lk}{A:K3}{E:Value->Ka->Prop}{s:Ka}
set_option maxRecDepth 100000 in
set_option maxHeartbeats 3200000 in
theorem zW(hT0:T = "list"∨T = "tuple")
  (hh:A.handled=none) (hol:s.heap.get? l=some ol) (hcl:ol.cls=.type T) (hdl:ol.data=.seq items nl) (hi:Nf items.toList ns) (hb:items.size+1<scanBound)
  (h:∀(h':Kp) (tk:Nat),cj w h' s.heap.objs.size (bC ns)->(∀b o,b<s.heap.objs.size->s.heap.get? b=some o->h'.get? b=some o)->Q (.ref s.heap.objs.size) { s with heap:=h',toks:=tk}):
  Kz (KF prog w) A (call (.type "set") [.ref l]) Q E s:=by
 have hlen:items.size=ns.length:=by rw[←Lg];exact QY hi
 obtain⟨c,tl,hmro⟩:=Mi.mro;have hmade:=Mi.made;have hsub:=Mi.sub;refine SR (codeAny_of_tree ?_);show Kz _ _ (callAny (.type "set") _) _ _ _;refine wpAny_pure ⟨Sk.quiet_builtin _ (by decide +kernel),NP PySem.F.entry_type_call ?_⟩;rw[K3.under_plain (weight_type_call_type "set" [.ref l] []) Z];have h1:=Mi.notType;have h2:=Mi.canCreate;have hct:=PySem.F.typeCall_set_1 (.ref l)
 repeat(any_goals(first|assumption|wp_step))
 refine OC (CY (.ref l) (E:=E) (Q₁:=λobj s₁=>obj=.ref s.heap.objs.size/\s₁={ s with heap:=s.heap.push (bK w)}) ⟨rfl,rfl⟩) λr s₁ hr=>?_
 cases r with
 |error e=>exact hr
 |ok fl=>
  cases fl with
  |ret obj=>
   obtain⟨rfl,rfl⟩:=hr;have hS:(s.heap.push (bK w)).get? s.heap.objs.size=some (bK w):=Kq _ Z;have hT:Ka.TypeIs { s with heap:=s.heap.push (bK w)} (.ref s.heap.objs.size) "set" := ⟨_,hS,rfl⟩;have hli:=Mi.init.lookup;have hbi:=Mi.init.bind (.ref s.heap.objs.size)
   repeat(any_goals(first|assumption|wp_step))
   refine OC (codeAny_call_builtin (R:=wants (λr s₂=>r=.none/\∃h' tk,s₂={ s with heap:=h',toks:=tk}/\cj w h' s.heap.objs.size (bC ns)∧ (∀b o,b<s.heap.objs.size->s.heap.get? b=some o->h'.get? b=some o)) E) Mi.init.plain PySem.F.entry_set_init (check_set_init_1 hT ?_)) λr₂ s₂ hr₂=>?_
   ·have hlS:l<s.heap.objs.size:=Kx hol;have hh3:A.in1.in1.in1.handled=none:=by simp[hh]
    have hol':(s.heap.push (bK w)).get? l=some ol:=Kd _ hol;have sz:(s.heap.push (bK w)).objs.size=s.heap.objs.size+1:=MP ..;have hneI:l≠(s.heap.push (bK w)).objs.size:=KM (by rw[sz];exact LI hlS);have hSf:s.heap.objs.size∉[(s.heap.push (bK w)).objs.size,l]:=by
     simp only[Kn,L4,or_false,not_or];exact⟨KM (by rw[sz];exact MC _),NC hlS⟩
    have hval:∀(i:Nat) (v:Value),items[i]?=some v->∃t,v=.int ((λi=>ns.getD i 0) i) t:=λi v hv=>Nf.int_at hi i v (by rw[Array.getElem?_toList];exact hv)
    have fin:∀(it:LY) (s':Ka),Moved [s.heap.objs.size,(s.heap.push (bK w)).objs.size] (λa b=>b=a) { s with heap:=(s.heap.push (bK w)).push it} s'→
      cj w s'.heap s.heap.objs.size (RW (λi=>ns.getD i 0) items.size)→
      ∃h' tk,s'={ s with heap:=h',toks:=tk}/\cj w h' s.heap.objs.size (bC ns)/\(∀b o,b<s.heap.objs.size->s.heap.get? b=some o->h'.get? b=some o):=by
     intro it s' hm hS';rw[hlen,oW] at hS';obtain⟨h',g',d',tk',os'⟩:=s';obtain rfl:g'=s.gens:=hm.gens;obtain rfl:d'=s.drawn:=hm.drawn;obtain rfl:os'=s.os:=hm.os;refine⟨h',tk',Z,hS',λb o hb e=>hm.heap b o ?_ (Kd _ (Kd _ e))⟩;simp only[Kn,L4,or_false,not_or];exact⟨KM hb,KM (by rw[sz];exact LI hb)⟩
    obtain⟨ocls,odict,odata,oslots⟩:=ol;simp only at hcl hdl;subst hcl;subst hdl;have n1:=PySem.F.sub_list_set;have n2:=PySem.F.sub_list_frozenset;have n3:=PySem.F.sub_tuple_set;have n4:=PySem.F.sub_tuple_frozenset;have n5:(Mp "list"==Mp "dict")=false:=by decide
    have n6:(Mp "tuple"==Mp "dict")=false:=by decide
    unfold Ll.«set.__init__» noKeywords Ll.Frozenset.updateFrom;generalize hPI:Sg=PI;rcases hT0 with rfl|rfl
    ·have hl1:(s.heap.push (bK w)).IsList l items:=⟨_,hol',Z,nl,Z⟩
     wp_walk
     subst hPI;refine Oz hl1 (J8 (QZ ?_));refine rS ((Walks.list hh3 _ l hneI items).toS) s.heap.objs.size hSf (λi=>ns.getD i 0) hval hb (items.size-0) 0 _ (by omega) (KJ _)
      ⟨⟨_,Kq _ Z,Z,Z⟩,(hl1.push _)⟩ (oQ (Kd _ hS)) λs' hm hS'=>?_
     obtain⟨h',tk,rfl,c1,c2⟩:=fin _ s' hm hS';exact wpAny_pure (wpAny_pure ⟨Z,h',tk,Z,c1,c2⟩)
    ·have hl1:(s.heap.push (bK w)).IsTuple l items:=⟨_,hol',Z,nl,Z⟩
     wp_walk
     subst hPI;refine Pe hl1 (J8 (QZ ?_));refine rS ((Walks.tuple hh3 _ l hneI items).toS) s.heap.objs.size hSf (λi=>ns.getD i 0) hval hb (items.size-0) 0 _ (by omega) (KJ _)
      ⟨⟨_,Kq _ Z,Z,Z⟩,(hl1.push _)⟩ (oQ (Kd _ hS)) λs' hm hS'=>?_
     obtain⟨h',tk,rfl,c1,c2⟩:=fin _ s' hm hS';exact wpAny_pure (wpAny_pure ⟨Z,h',tk,Z,c1,c2⟩)
   ·cases r₂ with
    |error e=>exact hr₂
    |ok fl₂=>
     cases fl₂ with
     |ret r=>
      obtain⟨rfl,h',tk,rfl,hS',hk'⟩:=hr₂
      repeat(any_goals(first|assumption|wp_step))
      exact h _ _ hS' hk'
     |_=>exact hr₂.elim
  |_=>exact hr.elim
end
namespace FS
theorem owner:Manifest.owners.lookup (String.ofList ['r','o','t','a','r','e','t','i','_','t','e','s'].reverse)=some Manifest.sig_set_iterator:=by kernel_rfl
theorem slot_next:Slot "set_iterator" "__next__" "set_iterator.__next__" :=
 .of (owner := "set_iterator") (n := "__next__") (by rw[typeLookup_type,QD];kernel_rfl) (by decide +kernel) (by decide +kernel) (by decide +kernel)
  (by first|exact .inl (by decide +kernel)|exact .inr (by decide +kernel)) (by rw[isSubtype_type];kernel_rfl)
theorem entry_next:S7 table "set_iterator.__next__"=some Ll.«set_iterator.__next__»:=entryFor_of_tree (by kernel_rfl)
theorem args_next(a:Value):argsOk "set_iterator.__next__" ⟨[a],[]⟩:=by
 unfold argsOk;rw[signature?_of (id := "set_iterator.__next__") (n:=['_','_','t','x','e','n','_','_']) (o:=['r','o','t','a','r','e','t','i','_','t','e','s']) (by kernel_rfl) owner];kernel_rfl
theorem entry_iter:S7 table "set.__iter__"=some Ll.«frozenset.__iter__»:=QV (id' := "frozenset.__iter__") (by kernel_rfl) Z (by decide +kernel) (by kernel_rfl)
theorem slot_iter2:Slot "set_iterator" "__iter__" "set_iterator.__iter__" :=
 .of (owner := "set_iterator") (n := "__iter__") (by rw[typeLookup_type,QD];kernel_rfl) (by decide +kernel) (by decide +kernel) (by decide +kernel)
  (by first|exact .inl (by decide +kernel)|exact .inr (by decide +kernel)) (by rw[isSubtype_type];kernel_rfl)
theorem entry_iter2:S7 table "set_iterator.__iter__"=some Ll.«dict_keyiterator.__iter__»:=QV (id' := "dict_keyiterator.__iter__") (by kernel_rfl) Z (by decide +kernel) (by kernel_rfl)
theorem args_iter2(a:Value):argsOk "set_iterator.__iter__" ⟨[a],[]⟩:=by
 unfold argsOk;rw[signature?_of (id := "set_iterator.__iter__") (n:=['_','_','r','e','t','i','_','_']) (o:=['r','o','t','a','r','e','t','i','_','t','e','s']) (by kernel_rfl) owner];kernel_rfl
end FS
section
variable {prog:KZ}{w:Lk}{A:K3}{E:Value->Ka->Prop}{s:Ka}
def ij(first:Value)(i:Nat)(a:Addr)(n ep:Nat):LY:={ cls:=.type "set_iterator",data:=.fields #[first,.int i 0,.ref a,.int n 0,.int ep 0]}
theorem yL{o:LY}{es:Array (Int×Value)}{ep i slot next:Nat}{t:SetTable}(hI:s.heap.get? I=some (ij (.int slot 0) i a es.size ep))
  (ho:s.heap.get? a=some o) (hd:o.data=.set es ep t) (hf:t.fits es.size=true) (hx:∀(A:K3) (E:Value->Ka->Prop) (Q:Option (Value×Nat)->Ka->Prop),Q (some (x,next)) s->Kz (KF prog w) A (Q6 a slot i ep) Q E s)
  (hQ:∀h',h'.get? I=some (ij (.int next 0) (i+1) a es.size ep)->LH I s.heap h'->Q (some x) { s with heap:=h'}):Kz (KF prog w) A (OI (.ref I)) Q E s:=by
 have hT:s.TypeIs (.ref I) "set_iterator" := ⟨_,hI,Z⟩;unfold OI;refine J8 (OS (Ml (name:=ND "__next__") hT FS.slot_next (LV FS.slot_next hT FS.entry_next ?_ (FS.args_next _))));unfold Ll.«set_iterator.__next__» R3;simp only[N9,M9,Lf,↓reduceIte,Qu,NN,bne_self_eq_false];refine J8 (wpAny_pure ?_);refine J8 (Pq hI Z ?_);dsimp only;refine J8 (Ny ho hd hf ?_);rw[if_neg (by simp)];refine J8 (hx _ _ _ ?_);dsimp only;refine J8 (N5 hI Z (by simp) ?_);have e1:(s.heap.update I (Ti (·.setIfInBounds 0 (QM next)))).get? I=some (ij (.int next 0) i a es.size ep):=LX _ hI Z;refine J8 (N5 e1 Z (by simp) (wpAny_pure ⟨x,Z,wpAny_pure (hQ _ (LX _ e1 Z) ((Ma ..).trans (Ma ..)))⟩))
theorem A8{o:LY}{es:Array (Int×Value)}{ep i slot:Nat}{t:SetTable}(hh:A.handled=none)(hI:s.heap.get? I=some (ij (.int slot 0) i a es.size ep))
  (ho:s.heap.get? a=some o) (hd:o.data=.set es ep t) (hf:t.fits es.size=true) (hx:∀(A:K3) (E:Value->Ka->Prop) (Q:Option (Value×Nat)->Ka->Prop),Q none s->Kz (KF prog w) A (Q6 a slot i ep) Q E s)
  (hQ:∀h',Kp.ExtBut I s.heap h'->Q none { s with heap:=h'}):Kz (KF prog w) A (OI (.ref I)) Q E s:=by
 have hT:s.TypeIs (.ref I) "set_iterator" := ⟨_,hI,Z⟩;unfold OI;refine J8 (OS (Ml (name:=ND "__next__") hT FS.slot_next (LV FS.slot_next hT FS.entry_next ?_ (FS.args_next _))));unfold Ll.«set_iterator.__next__» R3;simp only[N9,M9,Lf,↓reduceIte,Qu,NN,bne_self_eq_false];refine J8 (wpAny_pure ?_);refine J8 (Pq hI Z ?_);dsimp only;refine J8 (Ny ho hd hf ?_);rw[if_neg (by simp)];refine J8 (hx _ _ _ ?_)
 try dsimp only
 refine J8 (N5 hI Z (by simp) ?_);refine J8 ?_;simp only[newExc,newTuple];refine J8 (LA ?_ (by size_fits));refine J8 (m:=Pr _ _) (SB (a:=NX) (by first|rfl | (simp only[Pr];rfl)) ?_);refine LA ?_ (by size_fits);simp only[raiseNew];refine J8 (wpAny_handled ?_);rw[show A.in1.handled=none from hh];refine J8 (wpAny_pure (wpAny_throw ?_));refine J8 (OL (T := "StopIteration") (b:=true) ⟨_,Kq _ Z,Z⟩ QU ?_);exact wpAny_pure (hQ _ (((Ma ..).extBut.push _).push _))
theorem yP{o op:LY}{es:Array (Int×Value)}{ep i np pl:Nat}{t:SetTable}{hs:Int}(hI:s.heap.get? I=some (ij (.ref p) i a es.size ep))
  (ho:s.heap.get? a=some o) (hd:o.data=.set es ep t) (hf:t.fits es.size=true) (hp:s.heap.get? p=some op) (hpd:op.data=.seq ps np) (hpi:ps[i]?=some (.int pl u)) (hx:es[pl]?=some (hs,x))
  (hQ:∀h',h'.get? I=some (ij (.ref p) (i+1) a es.size ep)->LH I s.heap h'->Q (some x) { s with heap:=h'}):Kz (KF prog w) A (OI (.ref I)) Q E s:=by
 have hT:s.TypeIs (.ref I) "set_iterator" := ⟨_,hI,Z⟩;unfold OI;refine J8 (OS (Ml (name:=ND "__next__") hT FS.slot_next (LV FS.slot_next hT FS.entry_next ?_ (FS.args_next _))));unfold Ll.«set_iterator.__next__» R3;simp only[N9,M9,Lf,↓reduceIte,Qu,NN,bne_self_eq_false];refine J8 (wpAny_pure ?_);refine J8 (Pq hI Z ?_);dsimp only;refine J8 (Ny ho hd hf ?_);rw[if_neg (by simp)]
 try dsimp only
 refine J8 (wpAny_seqItems hp hpd ?_)
 try dsimp only
 simp only[MS,hpi];unfold setNextDrawn;refine J8 (J8 (Np ho hd hf ?_))
 try dsimp only
 rw[if_neg (by simp)];simp only[hx];refine wpAny_pure (J8 (N5 hI Z (by simp) (wpAny_pure ⟨x,Z,wpAny_pure (hQ _ (LX _ hI Z) (Ma ..))⟩)))
theorem Bc(hh:A.handled=none)(hI:s.heap.get? I=some (ij (.ref p) i a es.size ep))
  (ho:s.heap.get? a=some o) (hd:o.data=.set es ep t) (hf:t.fits es.size=true) (hp:s.heap.get? p=some op) (hpd:op.data=.seq ps np) (hpi:ps[i]?=none)
  (hQ:∀h',Kp.ExtBut I s.heap h'->Q none { s with heap:=h'}):Kz (KF prog w) A (OI (.ref I)) Q E s:=by
 have hT:s.TypeIs (.ref I) "set_iterator" := ⟨_,hI,Z⟩;unfold OI;refine J8 (OS (Ml (name:=ND "__next__") hT FS.slot_next (LV FS.slot_next hT FS.entry_next ?_ (FS.args_next _))));unfold Ll.«set_iterator.__next__» R3;simp only[N9,M9,Lf,↓reduceIte,Qu,NN,bne_self_eq_false];refine J8 (wpAny_pure ?_);refine J8 (Pq hI Z ?_);dsimp only;refine J8 (Ny ho hd hf ?_);rw[if_neg (by simp)]
 try dsimp only
 refine J8 (wpAny_seqItems hp hpd ?_)
 try dsimp only
 simp only[MS,hpi];have e1:(s.heap.update I (Ti (·.setIfInBounds 0 (QM 0)))).get? I=some (ij (.int 0 0) i a es.size ep):=LX _ hI Z;refine J8 (N5 hI Z (by simp) (J8 (N5 e1 Z (by simp) ?_)));refine J8 ?_;simp only[newExc,newTuple];refine J8 (LA ?_ (by size_fits));refine J8 (m:=Pr _ _) (SB (a:=NX) (by first|rfl | (simp only[Pr];rfl)) ?_);refine LA ?_ (by size_fits);simp only[raiseNew];refine J8 (wpAny_handled ?_);rw[show A.in1.handled=none from hh];refine J8 (wpAny_pure (wpAny_throw ?_));refine J8 (OL (T := "StopIteration") (b:=true) ⟨_,Kq _ Z,Z⟩ QU ?_);exact wpAny_pure (hQ _ ((((Ma ..).trans (Ma ..)).extBut.push _).push _))
end
end B
namespace B
open PySem PySem.Spec L2 PyProof.Rows
section
variable {prog:KZ}{w:Lk}{A:K3}{E:Value->Ka->Prop}{s:Ka}
theorem gF(h:Q (w.params.followText "set-order") s):Kz (KF prog w) A setsByText Q E s:=by
 unfold setsByText;exact J8 (Qb (wpAny_pure h))
theorem zO(hb:w.params.followText "set-order"=true)(ho:s.heap.get? a=some o)(hd:o.data=.set es ep t)(hf:t.fits es.size=true)
  (h:Q (((Pb (w.params.setOrder a ep) es)[i]?).map λe=>(e.2,slot)) s):Kz (KF prog w) A (Q6 a slot i ep) Q E s:=by
 unfold Q6;refine J8 (Np ho hd hf ?_);dsimp only;refine J8 (gF ?_);rw[hb];simp only[↓reduceIte,bne_self_eq_false,Lf];unfold setWalk;refine J8 (J8 (Np ho hd hf ?_));dsimp only;refine J8 (gF ?_);rw[hb];simp only[↓reduceIte];exact J8 (Qb (wpAny_pure (wpAny_pure h)))
theorem CJ(hb:w.params.followText "set-order"=false)(hl:t.led=true)(hp:(!t.plain&&decide (es.size>1))=false)
  (ho:s.heap.get? a=some o) (hd:o.data=.set es ep t) (hf:t.fits es.size=true)
  (h:Q (match es[SetTable.below t.place slot]?,t.place[SetTable.below t.place slot]? with|some (_,x),some j=>some (x,j+1)|_,_=>none) s):Kz (KF prog w) A (Q6 a slot i ep) Q E s:=by
 unfold Q6;refine J8 (Np ho hd hf ?_);dsimp only;refine J8 (gF ?_);rw[hb];simp only[Lf,↓reduceIte];show Kz _ _ (if(!t.plain&&decide (es.size>1))=true then _ else _) _ _ _;rw[hp];simp only[Lf,↓reduceIte];show Kz _ _ ((if(!t.led&&!es.isEmpty)=true then _ else Mz PUnit.unit) >>= _) _ _ _;rw[hl];simp only[M9,NY,Lf,↓reduceIte];refine J8 (wpAny_pure (wpAny_pure h))
theorem sK(hn:n≠0)(h:∀i d,i<n->Q i { s with drawn:=d}):Kz (KF prog w) A (choose src n) Q E s:=by
 intro Γ p hΓ;unfold choose;rw[Sem.wp_choose];exact⟨hn,by rw[Sem.wp_pure];exact h _ _ (Nat.mod_lt _ (Nat.pos_of_ne_zero hn))⟩
theorem kr{α:Type}:∀(n:Nat) (xs:List α) (s:Ka) (Q:List α->Ka->Prop),xs.length=n->(∀ys d,Q5 ys xs->Q ys { s with drawn:=d})->Kz (KF prog w) A (Ts n xs) Q E s
 |0,xs,s,Q,e,h=>by
  unfold Ts;have:=h [] s.drawn (by rw[LL.mp e]);exact wpAny_pure this
 |n+1,[],s,Q,e,h=>by simp at e
 |n+1,x::xs,s,Q,e,h=>by
  unfold Ts;refine J8 (sK (by simp) λi d hi=>?_);rw[J6 hi];dsimp only;refine J8 (kr n _ _ _ (by rw[Po hi];omega) λys d' hy=>wpAny_pure ?_);exact h _ d' ((hy.cons _).trans (kq hi))
theorem kY(hI:s.heap.get? I=some (ij first i a n ep))(h:Q (.ref I) s):Kz (KF prog w) A (Sg (.ref I)) Q E s:=by
 have hT:s.TypeIs (.ref I) "set_iterator" := ⟨_,hI,Z⟩;refine PD hT FS.slot_iter2 (LV FS.slot_iter2 hT FS.entry_iter2 ?_ (FS.args_iter2 _));show Kz _ _ (ret (.ref I)) _ _ s;exact wpAny_pure ⟨_,Z,"set_iterator",_,hT,FS.slot_next.lookup,h⟩
theorem nQ(hh:A.handled=none)(hne:a≠I)(hd:o.data=.set es ep t)(hf:t.fits es.size=true)(items:Array Value)(slotf:Nat->Nat)
  (hnx:∀(A:K3) (E:Value->Ka->Prop) (s:Ka) (Q:Option (Value×Nat)->Ka->Prop) (i:Nat),s.heap.get? a=some o->i≤items.size->Q (items[i]?.map λx=>(x,slotf (i+1))) s->Kz (KF prog w) A (Q6 a (slotf i) i ep) Q E s):
  WalksS prog w A I [I,a] [I] (λa b=>b=a) items.size (λi v=>items[i]?=some v) (λi s=>s.heap.get? I=some (ij (.int (slotf i) 0) i a es.size ep)/\s.heap.get? a=some o) where
 sub:=λb hb=>by simp at hb;simp[hb]
 grefl:=λ_=>rfl
 gtrans:=λ_ _ _ h1 h2=>h2.trans h1
 frame:=λ_ _ _ _ st _ hk=>⟨hk I (by simp) _ st.1,hk a (by simp) _ st.2⟩
 item:=λi s Q E hi st hQ=>by
  refine yL (next:=slotf (i+1)) (x:=items[i]) st.1 st.2 hd hf (λA E Q q=>hnx A E s Q i st.2 (MI hi) (by rw[L9 hi];exact q)) λh' hI hs=>?_
  refine hQ _ _ (by simp[hi]) ⟨hI,?_⟩ ⟨λb o hb e=>hs.extBut b o (λz=>hb (by simp[z])) e,Z,Z,Z,Kb _⟩;exact hs.extBut a o hne st.2
 done:=λs Q E st hQ=>by
  refine A8 hh st.1 st.2 hd hf (λA E Q q=>hnx A E s Q items.size st.2 (Kb _) (by rw[M8 (Kb _)];exact q)) λh' hx=>?_
  exact hQ _ ⟨λb o hb e=>hx b o (λz=>hb (by simp[z])) e,Z,Z,Z,Kb _⟩
 self:=λ_ _ _ _ st hQ=>kY st.1 hQ
end
section
variable {prog:KZ}{w:Lk}{A:K3}{E:Value->Ka->Prop}{s:Ka}
theorem pJ(hh:A.handled=none)(hne:a≠I)(hpe:p≠I)(hd:o.data=.set es ep t)(hf:t.fits es.size=true)(hpd:op.data=.seq ps np)(items:Array Value)
  (hz:items.size=ps.size) (hps:∀(i:Nat) (h:i<items.size),∃(pl:Nat) (u:Tx) (hs:Int),ps[i]?=some (.int pl u)/\es[pl]?=some (hs,items[i])):
  WalksS prog w A I [I,a,p] [I] (λa b=>b=a) items.size (λi v=>items[i]?=some v) (λi s=>s.heap.get? I=some (ij (.ref p) i a es.size ep)/\s.heap.get? a=some o/\s.heap.get? p=some op) where
 sub:=λb hb=>by simp at hb;simp[hb]
 grefl:=λ_=>rfl
 gtrans:=λ_ _ _ h1 h2=>h2.trans h1
 frame:=λ_ _ _ _ st _ hk=>⟨hk I (by simp) _ st.1,hk a (by simp) _ st.2.1,hk p (by simp) _ st.2.2⟩
 item:=λi s Q E hi st hQ=>by
  obtain⟨pl,u,hs,e1,e2⟩:=hps i hi;refine yP st.1 st.2.1 hd hf st.2.2 hpd e1 e2 λh' hI hs=>?_
  exact hQ _ _ (by simp[hi]) ⟨hI,hs.extBut a o hne st.2.1,hs.extBut p op hpe st.2.2⟩ ⟨λb o hb e=>hs.extBut b o (λz=>hb (by simp[z])) e,Z,Z,Z,Kb _⟩
 done:=λs Q E st hQ=>by
  refine Bc hh st.1 st.2.1 hd hf st.2.2 hpd (by rw[hz];exact M8 (Kb _)) λh' hx=>?_
  exact hQ _ ⟨λb o hb e=>hx b o (λz=>hb (by simp[z])) e,Z,Z,Z,Kb _⟩
 self:=λ_ _ _ _ st hQ=>kY st.1 hQ
def Di(prog:KZ)(w:Lk)(a:Addr)(ks:List Int)(s:Ka)(It:Addr)(s1:Ka):Prop:=
 ∃(fp:List Addr) (items:Array Value) (St:Nat->Ka->Prop),(∀A':K3,A'.handled=none->WalksS prog w A' It fp [It] (λa b=>b=a) items.size (λi v=>items[i]?=some v) St)/\St 0 s1/\It∈fp/\(∀b∈fp,b<s1.heap.objs.size/\(b=a∨s.heap.objs.size≤b))∧
  s.heap.objs.size≤It/\∃ms,Nf items.toList ms/\ms.Perm ks
theorem fS:∀{es:List (Int×Value)},(∀e∈es,∃n u,e=(Oy n,Mf n u))->Nf (es.map (·.2)) (es.map λe=>mf e.2)
 | [],_=>.nil
 |e::es,h=>by
  obtain⟨n,u,rfl⟩:=h e Kf;exact .cons n u (fS λx hx=>h x (Km _ hx))
def uK(t:SetTable):Nat->Nat
 |0=>0
 |k+1=>t.place.getD k 0+1
theorem qJ(R:iZ t.place)(h:i≤t.place.size):SetTable.below t.place (uK t i)=i:=by
 cases i with
 |zero=>exact qI R
 |succ k=>
  have hk:k<t.place.size:=by omega
  show SetTable.below t.place (t.place.getD k 0+1)=k+1;rw[show t.place.getD k 0=t.place[k] from by simp[Pn,hk]];exact qK R hk
theorem xh(I:cj w s.heap a ks)(hb:ks.length≤1000)
  (h:∀(It:Addr) (h':Kp) d,(∀b o,s.heap.get? b=some o->h'.get? b=some o)->Di prog w a ks s It { s with heap:=h',drawn:=d}->Q (.ref It) { s with heap:=h',drawn:=d}):Kz (KF prog w) A (Sg (.ref a)) Q E s:=by
 obtain⟨o,es,ep,t,ho,hx,hd,hs,hp,hf,T,hl⟩:=I;have hT:s.TypeIs (.ref a) "set" := ⟨o,ho,hx.1⟩;have hlt:a<s.heap.objs.size:=Kx ho;refine PD hT QF (LV QF hT FS.entry_iter ?_ (PySem.F.args_set_iter_1 _));unfold Ll.«frozenset.__iter__» Ll.Frozenset.slot0 R3;simp only[N9,M9,Lf,↓reduceIte,Qu,NN,bne_self_eq_false];unfold Ll.Frozenset.addrOf Ll.Frozenset.sizeOf;refine J8 (wpAny_pure ?_)
 try dsimp only
 refine J8 (wpAny_pure ?_);refine J8 (J8 (Ny ho hd hf (wpAny_pure ?_)));unfold setDrawn;refine J8 (J8 (Np ho hd hf ?_));dsimp only;refine J8 (gF (wpAny_pure ?_));show Kz _ _ (if(!w.params.followText "set-order"&&(!t.plain&&decide (es.size>1)))=true then _ else _) _ _ _;have hn:es.size=ks.length:=by rw[←hp.length_eq,J7,Lg]
 by_cases c:(!w.params.followText "set-order"&&(!t.plain&&decide (es.size>1)))=true
 ·rw[if_pos c];refine J8 (kr es.size (J9 es.size) _ _ (by simp) λys d hy=>?_);refine J8 (wpAny_newTuple ?_ ?_)
  ·have ho1:(s.heap.push { cls:=.type "tuple",data:=.seq (ys.map λi:Nat=>QM i).toArray}).get? a=some o:=Kd _ ho;refine J8 (R4 ho1 hd hf ?_);refine J8 (LA ?_ (by size_fits));have sz:(s.heap.push { cls:=.type "tuple",data:=.seq (ys.map λi:Nat=>QM i).toArray}).objs.size=s.heap.objs.size+1:=MP ..;refine wpAny_pure ⟨_,Z,"set_iterator",_,⟨_,Kq _ Z,Z⟩,FS.slot_next.lookup,h _ _ d (λb o e=>Kd _ (Kd _ e)) ?_⟩;have hmem:∀i∈ys,i<es.size:=λi hi=>Kk.mp (hy.mem_iff.mp hi)
   have yl:ys.length=es.size:=by rw[hy.length_eq,KB]
   have hpe:s.heap.objs.size≠(s.heap.push { cls:=.type "tuple",data:=.seq (ys.map λi:Nat=>QM i).toArray}).objs.size:=by rw[sz];exact KM (MC _)
   have hne:a≠(s.heap.push { cls:=.type "tuple",data:=.seq (ys.map λi:Nat=>QM i).toArray}).objs.size:=by rw[sz];exact KM (LI hlt)
   refine⟨_,(ys.map λi=>(es.getD i (0,.none)).2).toArray,_,λA' hh=>pJ (p:=s.heap.objs.size) hh hne hpe hd hf (ps:=(ys.map λi:Nat=>QM i).toArray) Z _ (by simp) λi hi=>?_,
    ⟨Kq _ Z,Kd _ ho1,Kd _ (Kq _ Z)⟩,by simp,λb hb=>?_,by rw[sz];exact Nm _,?_⟩
   ·have hi':i<ys.length:=by simpa using hi
    have hm:=hmem _ (K6 hi');refine⟨ys[i],0,(es[ys[i]]).1,?_,?_⟩
    ·simp[hi',QM]
    ·rw[L9 hm];simp[Pn,hm]
   ·rw[MP,sz];simp only[Kn,L4,or_false] at hb;rcases hb with rfl|rfl|rfl
    ·rw[sz];exact⟨MC _,.inr (Nm _)⟩
    ·exact⟨LI (LI hlt),.inl Z⟩
    ·exact⟨LI (MC _),.inr (Kb _)⟩
   ·refine⟨ys.map λi=>mf (es.getD i (0,.none)).2,?_,?_⟩
    ·have all:∀{zs:List Nat},(∀i∈zs,i<es.size)->Nf (zs.map λi=>(es.getD i (0,.none)).2) (zs.map λi=>mf (es.getD i (0,.none)).2):=by
      intro zs hz;have:=fS (es:=zs.map λi=>es.getD i (0,.none)) λe he=>by
       obtain⟨i,hi,rfl⟩:=Kc.mp he;have hm:=hz i hi;rw[show es.getD i (0,.none)=es[i] from by simp[Pn,hm]];exact hs _ (by simp)
      rw[KY,KY] at this;exact this
     simpa using all hmem
    ·refine(hy.map _).trans ?_;have e:(J9 es.size).map (λi=>mf (es.getD i (0,.none)).2)=es.toList.map λe=>mf e.2:=by
      apply P9
      ·simp
      ·intro i h1 h2;have hm:i<es.size:=by simpa using h2
       simp[Pn,hm]
     rw[e];exact hp
  ·rw[J7,hy.length_eq,KB,hn];exact K5 hb (by decide)
 ·rw[if_neg c];refine J8 (wpAny_pure (J8 (R4 ho hd hf (J8 (LA ?_ (by size_fits))))));have keep:∀b o,s.heap.get? b=some o->(s.heap.push (ij (.int 0 0) 0 a es.size ep)).get? b=some o:=λb o e=>Kd _ e
  refine wpAny_pure ⟨_,Z,"set_iterator",_,⟨_,Kq _ Z,Z⟩,FS.slot_next.lookup,h s.heap.objs.size _ s.drawn keep ?_⟩;have hne:a≠s.heap.objs.size:=KM hlt;have sz:(s.heap.push (ij (.int 0 0) 0 a es.size ep)).objs.size=s.heap.objs.size+1:=MP ..;have hfp:∀b∈[s.heap.objs.size,a],b<(s.heap.push (ij (.int 0 0) 0 a es.size ep)).objs.size/\(b=a∨s.heap.objs.size≤b):=λb hb=>by
   rw[sz];simp only[Kn,L4,or_false] at hb;rcases hb with rfl|rfl
   ·exact⟨MC _,.inr (Kb _)⟩
   ·exact⟨LI hlt,.inl Z⟩
  cases bt:w.params.followText "set-order" with
  |true=>
   refine⟨_,(Pb (w.params.setOrder a ep) es).map (·.2),_,λA' hh=>nQ hh hne hd hf _ (λ_=>0) λA E s Q i hs' hi q=>?_,⟨Kq _ Z,keep _ _ ho⟩,by simp,hfp,Kb _,?_⟩
   ·refine zO bt hs' hd hf ?_;rw[Rw,QX] at q;exact q
   ·have pp:=tF (w.params.setOrder a ep) es;refine⟨_,?_,(pp.map λe=>mf e.2).trans hp⟩;rw[Sr];exact fS λe he=>hs e (pp.mem_iff.mp he)
  |false=>
   rw[bt] at c hl;have c':(!t.plain&&decide (es.size>1))=false:=by simpa using c
   have R:iZ t.place:=by
    cases pl:t.plain with
    |true=>exact(T pl).2
    |false=>
     rw[pl] at c';have h1:¬es.size>1:=by simpa using c'
     intro i j q hj;have:t.place.size=es.size:=by
      unfold SetTable.fits at hf;simp only[LG,beq_iff_eq,decide_eq_true_eq] at hf;exact hf.1
     omega
   have hps:t.place.size=es.size:=by
    unfold SetTable.fits at hf;simp only[LG,beq_iff_eq,decide_eq_true_eq] at hf;exact hf.1
   refine⟨_,es.map (·.2),_,λA' hh=>nQ hh hne hd hf _ (uK t) λA E s Q i hs' hi q=>?_,⟨Kq _ Z,keep _ _ ho⟩,by simp,hfp,Kb _,?_⟩
   ·rw[Array.size_map] at hi;refine CJ bt hl c' hs' hd hf ?_;rw[qJ R (by omega)];rw[Rw,QX] at q;by_cases z:i<es.size
    ·rw[L9 z] at q ⊢;rw[L9 (show i<t.place.size by omega)];have:uK t (i+1)=t.place[i]'(by omega)+1:=by
      show t.place.getD i 0+1=_;simp[Pn,show i<t.place.size by omega]
     simp only[Option.map_some,Function.comp_apply] at q;rw[this] at q;exact q
    ·rw[M8 (by omega)] at q ⊢;exact q
   ·refine⟨_,?_,hp⟩;rw[Sr];exact fS hs
end
def Hj(K:J5):V->List V->Hp->VK->Prop:=λx vs H Q=>∃l b xs zs,x=.ref l/\vs=[.ref b]/\H l=some (.lst xs)/\bH K H b zs/\xs.length+zs.length≤1000/\Q .non (av H l (.lst (xs++zs)))
theorem ia:∀{ns:List Int} {us:List Value},aZ (ns.map V.int) us->Nf us ns
 | [],[],_=>.nil
 |i::ns,u::us,h=>by
  cases h with
  |cons a t=>
   obtain⟨k,rfl⟩:=(show ∃k,u=Mf i k from a);exact .cons i k (ia t)
theorem m6:∀{ns:List Int} {us:List Value},Nf us ns->aZ (ns.map V.int) us
 |_,_,.nil=>.nil
 |_,_,.cons n t h=>.cons ⟨t,Z⟩ (m6 h)
def Eg(K:J5):List V->Hp->VK->Prop:=λxs H Q=>∃p ns,xs=[.ref p]/\(aO K H p (ns.map V.int)∨bH K H p (ns.map V.int))/\ns.length<64/\∀(l:Addr) (ms:List Int),ms.Perm ns->ms.Pairwise (·≤·)->H l=none->Q (.ref l) (av H l (.lst (ms.map V.int)))
theorem pk:cM X (.builtin "sorted") (Eg X.K):=by
 intro pins s σ H xs us Q I r h;obtain⟨p,ns,rfl,hq,h64,q⟩:=h;obtain⟨u,rfl,rx⟩:=fU r
 cases rx
 have go:∀(its:List Value) (T:String) (o:LY) (n:Nat),aZ (ns.map V.int) its->(T = "list"∨T = "tuple")->s.heap.get? p=some o->o.cls=.type T->o.data=.seq its.toArray n→
   Kz (KF X.prog X.w) X.A (call (.builtin "sorted") [.ref p]) (EP X pins σ Q) X.xe s:=λits T o n rv hT ho hc hd=>by
  have hln:its.length<64:=by rw[←rv.length,J7];exact h64
  have sz:its.toArray.size≤sizeLine:=by rw[KI];exact K5 (MI hln) (by decide)
  refine Calls.call_function_entry kind_sorted plain_sorted entry_sorted (args_sorted1 (.ref p)) ?_;unfold Ll.«sorted»;refine J8 (m:=checkCount "sorted" 1 1 _) (wpAny_pure (J8 (wpAny_collect_seq p hT ho hc hd (λh1 kp=>J8 (wpAny_newList ?_)) sz)));have hoL:(h1.push (S9 "list" its.toArray 0)).get? h1.objs.size=some (S9 "list" its.toArray 0):=Kq _ Z;show Kz _ _ _ _ _ { s with heap:=h1.push (S9 "list" its.toArray 0)};refine J8 (wpAny_holding (LV slot_list_sort ⟨_,hoL,rfl⟩ entry_list_sort (list_sort_tree hoL (ia rv) hln λout ms a1 a2 a3=>⟨_,rfl,wpAny_pure ⟨_,rfl,?_⟩⟩) (args_list_sort _)));have I1:L2.Inv X pins σ H { s with heap:=h1}:=I.kept (t':=s.toks) kp;obtain⟨ep,he⟩:=sortedHeap_at (out:=out) hoL;have lm:(ms.map V.int).length≤sizeLine:=by rw[J7,a2.length_eq];exact K5 (MI h64) (by decide)
  refine⟨.ref h1.objs.size,_,I1.laid (a:=h1.objs.size) (o:=.lst (ms.map V.int)) (t':=s.toks) (λb u hb=>?_) (Kb _) ⟨lm,out.toList,ep,m6 a1,by simpa using he⟩,Z,q _ ms a2 a3 (I1.hok.fresh (Kb _))⟩;have hlt:b<h1.objs.size:=Kx hb;rw[sortedHeap_old (KM hlt) (by rw[size_push'];exact LI hlt)];exact Kd _ hb
 rcases hq with hq|hq
 ·obtain⟨its,r',pl,_⟩:=I.list hq;obtain⟨o,ho,hc,n,hd⟩:=pl.isList;exact go its "list" o n r' (.inl Z) ho hc hd
 ·obtain⟨its,r',⟨o,ho,hc,n,hd⟩,_⟩:=I.tuple hq;exact go its "tuple" o n r' (.inr Z) ho hc hd
section
variable {prog:KZ}{w:Lk}{A:K3}{E:Value->Ka->Prop}{s:Ka}
theorem zV{acc items:Array Value}(h:Nf items.toList ms)(hi:ItemsOf (λi v=>items[i]?=some v) acc items.size):Nf acc.toList ms:=by
 have e:acc=items:=by
  apply Array.ext_getElem?;intro i;by_cases c:i<acc.size
  ·have:=hi.2 i acc[i] (L9 c);rw[this,L9 c]
  ·rw[M8 (by omega),M8 (by have:=hi.1;omega)]
 rw[e];exact h
theorem o6(hh:A.handled=none)(I:cj w s.heap a ks)(hb:ks.length≤1000)
  (h:∀(items:List Value) (ms:List Int) h' d tk,Nf items ms->ms.Perm ks->(∀b o,s.heap.get? b=some o->h'.get? b=some o)->Q items { s with heap:=h',drawn:=d,toks:=tk}):Kz (KF prog w) A (collect (.ref a)) Q E s:=by
 have hlt:a<s.heap.objs.size:=by obtain⟨o,_,_,_,ho,_⟩:=I;exact Kx ho
 have hSa:s.heap.objs.size≠a:=NC hlt;unfold collect;refine J8 (QZ (NP PySem.F.entry_proto_collect ?_));rw[Nq PySem.F.plain_proto_collect _];show Kz _ A.in1 (newList [] >>= λl=>again (.builtin "list.__iadd__" ⟨[l,.ref a],[]⟩)) _ _ s;refine J8 (LA ?_);refine wpAny_pure ⟨PX Qc _,NP PySem.F.entry_list_iadd ?_⟩;rw[Nq Qc _];have I1:cj w (s.heap.push { cls:=.type "list",data:=.seq ([]:List Value).toArray}) a ks:=I.at λo e=>Kd _ e
 have hS₁:(s.heap.push { cls:=.type "list",data:=.seq ([]:List Value).toArray}).get? s.heap.objs.size=some { cls:=.type "list",data:=.seq ([]:List Value).toArray}:=Kq _ Z;show Kz _ A.in1 (O8 (.ref s.heap.objs.size) (.ref a) (.ref s.heap.objs.size)) _ _ _;unfold O8;have tys:∀(h:Kp) (s1:Ka),cj w h a ks->s1.heap=h->s1.TypeIs (.ref a) "set" := λh s1 J e=>by
  obtain⟨o,_,_,_,ho,hx,_⟩:=J;exact⟨o,by rw[e];exact ho,hx.1⟩
 refine J8 (RK (tys _ _ I1 Z) ?_);have h1:PY (.ref s.heap.objs.size) (.ref a)=false:=by simp[PY,hSa]
 have h2:(Mp "set"==Mp "list")=false:=by decide
 have h3:(Mp "set"==Mp "tuple")=false:=by decide
 simp only[h1,h2,h3,Rj,Lf,if_false];refine J8 (xh (prog:=prog) I1 hb λIt h' d keep W=>?_);obtain⟨fp,items,St,W,st,hI,hfp,hge,ms,hms,hpm⟩:=W;have sz:(s.heap.push { cls:=.type "list",data:=.seq ([]:List Value).toArray}).objs.size=s.heap.objs.size+1:=MP ..;refine J8 (wpAny_holding ?_);unfold Ll.List.listLengthHint;have I2:cj w h' a ks:=I1.at λo e=>keep a o e
 have t2:=tys h' { s with heap:=h',drawn:=d} I2 rfl;refine J8 (wpAny_specialOf t2 PySem.F.slot_set_len.lookup ?_)
 (generalize zX:("set.__len__" : String)=id0;(fail_if_success (clear zX id0));wp_delta;rw[show splitId id0=some ("set","__len__") from by subst zX;decide +kernel];subst zX)
 refine J8 (OL (b:=true) t2 sub_set_self ?_);show Kz _ A.in1 (typeOf (K7 a) >>= _) _ _ _;refine J8 (RK t2 (wpAny_pure ?_));have hS2:h'.get? s.heap.objs.size=some { cls:=.type "list",data:=.seq ([]:List Value).toArray}:=keep _ _ hS₁;have hSf:s.heap.objs.size∉fp:=λhm=>by
  rcases(hfp _ hm).2 with e|e
  ·exact hSa e
  ·rw[sz] at e;exact Nat.not_succ_le_self _ e
 show Kz _ A.in1 (rule "list.extend.makes-room" >>= λ_=>Ll.List.listTouch (.ref s.heap.objs.size) >>= λ_=>
  again (.builtin "list.extend.loop" ⟨[.ref s.heap.objs.size,.ref It,.ref s.heap.objs.size],[]⟩)) _ _ _
 refine J8 (Rn (J8 ?_));show Kz _ A.in1 (updateSeq s.heap.objs.size (·.push .none) >>= λ_=>updateSeq s.heap.objs.size (·.pop)) _ _ _;refine J8 (wpAny_updateSeq hS2 Z ?_);have hS3:=LX (N4 (·.push NX)) hS2 Z;refine wpAny_updateSeq hS3 Z ?_;have hS4:=LX (N4 (·.pop)) hS3 Z;have oth:∀b o,b≠s.heap.objs.size->h'.get? b=some o->((h'.update s.heap.objs.size (N4 (·.push NX))).update s.heap.objs.size (N4 (·.pop))).get? b=some o:=
  λb o hb e=>(NE _ _ (M5 hb)).trans ((NE _ _ (M5 hb)).trans e)
 have hn:items.size≤sizeLine:=by
  rw[←Lg,QY hms,hpm.length_eq];exact K5 hb (by decide)
 have W1:=W A.in1 (by simp[hh]);refine wpAny_pure ⟨PX PySem.F.plain_extend_loop _,codeAny_extend_loopS W1 hn _ hSf _ items.size 0 _ _ _ Z (KJ _) (W1.frame 0 ({ s with heap:=h',drawn:=d}:Ka) _ s.toks st (Kb _) λb hb o e=>oth b o (λh=>hSf (h▸hb)) e) hS4 (ItemsOf.nil _) λs' acc' c' hm hS' hacc=>?_⟩
 show Kz _ A (load s.heap.objs.size >>= _) _ _ s';refine J8 (wpAny_load hS' (wpAny_pure ?_));obtain⟨h3,g3,d3,t3,o3⟩:=s';obtain rfl:g3=s.gens:=hm.gens;obtain rfl:d3=d:=hm.drawn;obtain rfl:o3=s.os:=hm.os;refine h acc'.toList ms h3 d3 t3 (zV hms hacc) hpm λb o e=>?_
 have hb1:b<s.heap.objs.size:=Kx e;refine hm.heap b o ?_ (oth b o (KM hb1) (keep b o (Kd _ e)));simp only[Kn,L4,or_false,not_or];exact⟨KM hb1,KM (Ky hb1 (K5 (Nm _) (show s.heap.objs.size+1≤It from by rw[←sz];exact hge)))⟩
end
theorem Inv.drew{X:Cx}{pins:List (Addr×LY)}{σ:L2.St}{H:Hp}{s:Ka}(d:Drawn)(I:L2.Inv X pins σ H s):L2.Inv X pins σ H { s with drawn:=d}:=
 ⟨I.ok,I.os,I.bare,I.base,I.loc,I.cell,I.free,I.freeC,I.pin,I.hok,I.len⟩
def setO(w:Lk)(a:Addr)(ks:List Int):HO:=.ext λh=>cj w h a ks
theorem yO(e:cj w h a ks):bo P w H h a (setO w a ks):=
 ⟨e,let ⟨o,_,_,_,q,_⟩:=e;⟨o,q⟩,λ_ _ q k=>q.at k⟩
def AI(w:Lk)(K:J5):List V->Hp->VK->Prop:=λxs H Q=>∃p ns,xs=[.ref p]/\(aO K H p (ns.map V.int)∨bH K H p (ns.map V.int))/\ns.length≤1000/\∀l,H l=none->Q (.ref l) (av H l (setO w l (bC ns)))
theorem uc(hc:X.calm=true):cM X (.type "set") (AI X.w X.K):=by
 intro pins s σ H xs us Q I r h;obtain⟨p,ns,rfl,hq,hz,q⟩:=h;obtain⟨u,rfl,rx⟩:=fU r
 cases rx
 have go:∀(its:List Value) (T:String) (o:LY) (n:Nat),aZ (ns.map V.int) its->(T = "list"∨T = "tuple")->s.heap.get? p=some o->o.cls=.type T->o.data=.seq its.toArray n→
   Kz (KF X.prog X.w) X.A (call (.type "set") [.ref p]) (EP X pins σ Q) X.xe s:=λits T o n rv hT ho hc' hd=>by
  have hl:=rv.length;rw[J7] at hl;refine zW (ns:=ns) hT (I.ok.hd hc) ho hc' hd (by simpa using ia rv) (by rw[KI,←hl];unfold scanBound;omega) λh' tk hS hk=>?_
  exact⟨.ref s.heap.objs.size,_,I.laid (a:=s.heap.objs.size) (o:=setO X.w s.heap.objs.size (bC ns)) (t':=tk) (λb o e=>hk b o (Kx e) e) (Kb _) (yO hS),Z,q _ (I.hok.fresh (Kb _))⟩
 rcases hq with hq|hq
 ·obtain⟨its,r',pl,_⟩:=I.list hq;obtain⟨o,ho,hc',n,hd⟩:=pl.isList;exact go its "list" o n r' (.inl Z) ho hc' hd
 ·obtain⟨its,r',⟨o,ho,hc',n,hd⟩,_⟩:=I.tuple hq;exact go its "tuple" o n r' (.inr Z) ho hc' hd
def vJ(w:Lk):List V->Hp->VK->Prop:=λxs H Q=>∃p ks,xs=[.ref p]/\H p=some (setO w p ks)/\ks.length<64/\∀(l:Addr) (ms:List Int),ms.Perm ks->ms.Pairwise (·≤·)->H l=none->Q (.ref l) (av H l (.lst (ms.map V.int)))
theorem nG(hc:X.calm=true):cM X (.builtin "sorted") (vJ X.w):=by
 intro pins s σ H xs us Q I r h;obtain⟨p,ks,rfl,hp,h64,q⟩:=h;obtain⟨u,rfl,rx⟩:=fU r
 cases rx
 have S:cj X.w s.heap p ks:=(show bo X.prog X.w H s.heap p (setO X.w p ks) from I.hok p _ hp).1;refine Calls.call_function_entry kind_sorted plain_sorted entry_sorted (args_sorted1 (.ref p)) ?_;unfold Ll.«sorted»;refine J8 (m:=checkCount "sorted" 1 1 _) (wpAny_pure (J8 (o6 (by simp[I.ok.hd hc]) S (by omega) λits ns h1 d tk hi hpm kp=>?_)));have hln:its.length<64:=by rw[QY hi,hpm.length_eq];exact h64
 have sz:its.length≤sizeLine:=K5 (MI hln) (by decide);refine J8 (wpAny_newList ?_ sz);have hoL:(h1.push (S9 "list" its.toArray 0)).get? h1.objs.size=some (S9 "list" its.toArray 0):=Kq _ Z;show Kz _ _ _ _ _ { s with heap:=h1.push (S9 "list" its.toArray 0),drawn:=d,toks:=tk};refine J8 (wpAny_holding (LV slot_list_sort ⟨_,hoL,rfl⟩ entry_list_sort (list_sort_tree hoL (by simpa using hi) hln λout ms a1 a2 a3=>⟨_,rfl,wpAny_pure ⟨_,rfl,?_⟩⟩) (args_list_sort _)));have I1:L2.Inv X pins σ H { s with heap:=h1,drawn:=d,toks:=tk}:=Inv.drew d (I.kept (t':=tk) kp);obtain⟨ep,he⟩:=sortedHeap_at (out:=out) hoL;have lm:(ms.map V.int).length≤sizeLine:=by rw[J7,a2.length_eq,hpm.length_eq];exact K5 (MI h64) (by decide)
 refine⟨.ref h1.objs.size,_,I1.laid (a:=h1.objs.size) (o:=.lst (ms.map V.int)) (t':=tk) (λb u hb=>?_) (Kb _) ⟨lm,out.toList,ep,m6 a1,by simpa using he⟩,Z,q _ ms (a2.trans hpm) a3 (I1.hok.fresh (Kb _))⟩;have hlt:b<h1.objs.size:=Kx hb;rw[sortedHeap_old (KM hlt) (by rw[size_push'];exact LI hlt)];exact Kd _ hb
def GY(ta:TA):TE:=λσ H Q=>ta σ H λvs H1=>∃i j:Int,vs=[.int i,.int j]/\∀p,H1 p=none->Q (.ref p) (av H1 p (.rng i j))
def FG:R2:=λx y H Q=>∃(i:Int) (p:Addr) (lo hi:Int),x=.int i/\y=.ref p/\H p=some (.rng lo hi)/\Q (.bl (!(decide (lo≤i)&&decide (i<hi)))) H
section
set_option autoImplicit true
set_option relaxedAutoImplicit true
end
def EZ(lo n:Nat):List Nat:=(J9 n).map λi=>lo+i
def IW:List V->Hp->VK->Prop:=λxs H Q=>∃p,∃lo n:Nat,xs=[.ref p]/\H p=some (.rng (lo:Int) ((lo+n:Nat):Int))/\lo+n≤1000/\∀l,H l=none->Q (.ref l) (av H l (.lst ((EZ lo n).map λi:Nat=>V.int i)))
theorem lQ:MH "set"=some (.type "set"):=by kernel_rfl
theorem lP{α β:Type}{K:J5}{H:Hp}{D a:Addr}{xs:List V}{ds:List α}{P:Hp->V->β->Prop}{f:α->β}{src:List (Option Nat)}{σ:L2.St}{g:TG}{tt:TT}{te:TE}{Q:Hp->Prop}
  (mono:∀H H' v d,aT K H H'->P H v d->P H' v d) (hD:H D=none) (hS:aO K H a xs) (hl:xs.length=ds.length) (hn:ds.length≤1000)
  (turn:∀(i:Nat) (x:V) (d:α) (H':Hp),xs[i]?=some x->ds[i]?=some d->aC H H'->∀(R:VK) (E:Hp->Prop),(∀v H'',aC H' H''->P H'' v (f d)->R v H'')→
   g x (cr src σ) H' λσ2 H2=>eU (cr src σ) σ2/\tt σ2 H2 λok H3=>if ok=true then te σ2 H3 R else E H3)
  (fin:∀H' ys,aC H H'->H' D=some (.lst ys)->cK (P H') ys (ds.map f)->Q H') :
  ∃W:Nat->Nat->List V->Hp->Prop,(∃m,W 0 m [] (av H D (.lst [])))/\∀i m ys H,W i m ys H->((yt K a).stop i H/\Q H)∨((yt K a).go i H/\∀x H',(yt K a).yld i H x H'→
   g x (cr src σ) H' λσ2 H2=>eU (cr src σ) σ2/\tt σ2 H2 λok H3=>
    if ok=true then te σ2 H3 λy H4=>H4 D=some (.lst ys)/\ys.length<sizeLine/\∃m',m'<m/\W (i+1) m' (ys++[y]) (av H4 D (.lst (ys++[y]))) else ∃m',m'<m/\W (i+1) m' ys H3):=by
 refine⟨λi m ys H'=>i≤ds.length/\m=ds.length-i/\H' D=some (.lst ys)/\aC H H'/\cK (P H') ys ((ds.take i).map f),⟨_,KJ _,Z,zqd,ai hD _,.nil⟩,?_⟩;rintro i m ys H1 ⟨hi,rfl,d1,s1,al1⟩;have hS1:aO K H1 a xs:=s1.seq hS;by_cases hix:i<ds.length
 ·have hx0:xs[i]?=some (xs[i]'(by omega)):=J6 _;refine .inr ⟨⟨xs,_,hS1,hx0⟩,?_⟩;rintro x H2 ⟨rfl,hy⟩;have hx:=hy xs hS1;obtain⟨d,hd⟩:∃d,ds[i]?=some d:=⟨_,J6 hix⟩;refine turn i x d _ hx hd s1 _ _ λv H3 s3 p3=>?_
  have d3:H3 D=some (.lst ys):=s3 _ _ d1;have tm:aT K H2 (av H3 D (.lst (ys++[v]))):=(aT.same s3).trans (aT.up d3 _);refine⟨d3,bf (by rw[al1.len,J7,K0];omega),ds.length-(i+1),by omega,hix,Z,zqd,λb o q=>?_,?_⟩
  ·rw[ak (aB q hD)];exact s3 _ _ (s1 _ _ q)
  ·rw[KP,hd,Ku];exact(al1.mono λv d p=>mono _ _ _ _ tm p).snoc (mono _ _ _ _ (aT.up d3 _) p3)
 ·have e:i=ds.length:=by omega
  subst e;rw[K2] at al1;exact .inl ⟨⟨xs,hS1,by omega⟩,fin H1 ys s1 d1 al1⟩
theorem kB(hw:X.w=w)(hc:X.calm=true):cM X (.type "set") (AI w X.K):=hw▸uc hc
theorem gR(hw:X.w=w)(hc:X.calm=true):cM X (.builtin "sorted") (vJ w):=hw▸nG hc
def G6(te:TE)(i:Nat):TS:=λD σ H=>te σ H λx H1=>∃σ',σ.set i (some x)=σ'/\D.nx σ' H1
section
variable {prog:KZ}{w:Lk}{A:K3}{E:Value->Ka->Prop}{s:Ka}
end
section
variable {X:Cx}{pins:List (Addr×LY)}{σ:L2.St}{H:Hp}{A:K3}{E:Value->Ka->Prop}{a kS:Addr}{vs:List Value}{kz:List Int}{f:Value}{e1:Nat}
def FR(X:Cx)(σ:L2.St)(H:Hp)(A:K3)(f:Value)(vs:List Value)(kz:List Int):Prop:=
 ∀(i:Nat) (v:Value) (k:Int),vs[i]?=some v->kz[i]?=some k->∀(pins:List (Addr×LY)) (s:Ka),Inv X pins σ H s→
  Kz (KF X.prog X.w) A (call f [v]) (λu s2=>(∃t,u=.int k t)/\Inv X pins σ H s2) (λ_ _=>False) s
end
def BF(sp:Sp)(key:Nat->Int):List V->Hp->VK->Prop:=λxs H Q=>∃(p:Addr) (n:Nat),xs=[.ref p]/\H p=some (.rng 0 n)/\n<64/\(∀i<n,∀(Qk:VK),Qk (.int (key i)) H->sp [.int (i:Nat)] H Qk λ_ _ _=>False)∧
 ∀(l:Addr) (ms:List Nat),ms.Perm (J9 n)->ms.Pairwise (λa b=>key a≤key b)->H l=none->Q (.ref l) (av H l (.lst (ms.map λi:Nat=>V.int i)))
def FZ(sp:Sp)(key:Nat->Int)(t:TA):TE:=λσ H Q=>t σ H λvs H1=>BF sp key vs H1 Q
def He:V->List V->Hp->VK->Prop:=λx vs H Q=>∃(l:Addr) (ns:List Nat) (j k:Nat),x=.ref l/\vs=[.int (k:Int)]/\H l=some (.lst (ns.map λi:Nat=>V.int i))/\ns[j]?=some k/\(∀m,m<j->ns[m]?≠some k)/\Q .non (av H l (.lst ((ns.eraseIdx j).map λi:Nat=>V.int i)))
def JR(k:Int):Value->Bool
 | .int i _=>i==k
 |_=>false
def JT(X:Cx)(N':List K1)(scope:Oa)(y:K1)(cl:List (K1×Addr))(C:Addr)(fp:List Addr)(pins:List (Addr×LY))(s:Ka)(H:Hp):Cx:=
 { X with N:=N',s₀:=s,H₀:=H,env:=OV scope ((y,C+1)::cl) C X.env,outer:=X.stack,stack:=X.stack,ex:=fp,fn:=λz=>z==y,pn:=X.pn++pins,xe:=λ_ _=>False}
structure GQ(X:Cx)(scope:Oa)(y:K1)(cl:List (K1×Addr)):Prop where
 has:∀x,((OV scope cl 0 X.env).kindOf x=some .cell∨(OV scope cl 0 X.env).kindOf x=some .free)->x=y∨∃c,cl.lookup x=some c
 up:∀x c,cl.lookup x=some c->X.env.cells.lookup x=some c
 no:cl.lookup y=none
section
variable {M:Model}{A:K3}{E:Value->Ka->Prop}{s:Ka}
end
section
variable {X:Cx}{N':List K1}{scope:Oa}{y:K1}{cl:List (K1×Addr)}{src:List (Option Nat)}{pins:List (Addr×LY)}{σ:L2.St}{H:Hp}{s:Ka}{fp:List Addr}
end
section
variable {X:Cx}{N':List K1}{scope:Oa}{y:K1}{cl:List (K1×Addr)}{src:List (Option Nat)}{tg iter elt:Le}{ifs:List Le}{wi:TI}{g:TG}{tt:TT}{te:TE}{pos:NW}
end
section
variable {X:Cx}{N':List K1}{scope:Oa}{y:K1}{cl:List (K1×Addr)}{src:List (Option Nat)}{tg iter elt:Le}{ifs:List Le}{wi:TI}{g:TG}{tt:TT}{te:TE}{pos:NW}
theorem zK{K:J5}{k:Nat}(hK:X.K=K)(hr:cR k X.A):fJ X (LB .NotEq) (Ej K):=hK▸fP hr
end
structure eY(K:J5)(n:K1)(st:Stmt)(f:Addr)(d:Kh):Prop where
 p:PySem.W.nsIn K KO n=some (some (.ref f))
 F:dN K n n st f d
section
variable {K:J5}{n:K1}{st:Stmt}{f:Addr}{d:Kh}
theorem isF{oc:Value}{od an:Option Addr}{sl:Array (Option Value)}{kV dc pm cd ct:Value}(p:PySem.W.nsIn K KO n=some (some (.ref f)))
  (l:K.lookup f=some ⟨oc,od,.func (Mg n n (dh st) (cY st) (aq st) .none kV dc pm an cd ct),sl⟩) (c:OD K cd n=true) (k:Mr K (.ref f)=true) :
  eY K n st f (Mg n n (dh st) (cY st) (aq st) .none kV dc pm an cd ct):=⟨p,xA l c k⟩
abbrev BA(n:K1)(st:Stmt)(us:List Value)(ps:List K1):Prop:=∀(kV dc pm:Value) (an:Option Addr) (cd ct:Value),RG (Mg n n (dh st) (cY st) (aq st) .none kV dc pm an cd ct) ⟨us,[]⟩=Mz (ps.zip us)
theorem eY.b1{x:K1}(I:eY K n st f d)(h:∀u,BA n st [u] [x]:=by exact λ_ _ _ _ _ _ _=>Z):aS K d [x] []:=I.F.binds λa b c e g i us hl=>match us,hl with | [u],_=>h u a b c e g i
theorem eY.b2{x y:K1}(I:eY K n st f d)(h:∀u v,BA n st [u,v] [x,y]:=by exact λ_ _ _ _ _ _ _ _=>Z):aS K d [x,y] []:=I.F.binds λa b c e g i us hl=>match us,hl with | [u,v],_=>h u v a b c e g i
theorem eY.b3{x y z:K1}(I:eY K n st f d)(h:∀u v w,BA n st [u,v,w] [x,y,z]:=by exact λ_ _ _ _ _ _ _ _ _=>Z):aS K d [x,y,z] []:=I.F.binds λa b c e g i us hl=>match us,hl with | [u,v,w],_=>h u v w a b c e g i
theorem eY.b4{x y z t:K1}(I:eY K n st f d)(h:∀u v w r,BA n st [u,v,w,r] [x,y,z,t]:=by exact λ_ _ _ _ _ _ _ _ _ _=>Z):aS K d [x,y,z,t] []:=I.F.binds λa b c e g i us hl=>match us,hl with | [u,v,w,r],_=>h u v w r a b c e g i
end
theorem ae{X:Cx}{st:Stmt}{rest:List Stmt}{t u:TS}(h1:QS X st t)(h2:dj X rest u):dj X (st::rest) (let Uq:=u;A4 t Uq):=vL h1 h2
def Fn(K:J5)(a b:Addr):It:=
 ⟨λi H=>∃xs ys x y,aO K H a xs/\bH K H b ys/\xs[i]?=some x/\ys[i]?=some y,
  λi H v H'=>∃p x y,H p=none/\v=.ref p/\H'=av H p (.tup [x,y])/\(∀xs,aO K H a xs->xs[i]?=some x)/\∀ys,bH K H b ys->ys[i]?=some y,
  λi H=>∃xs ys,aO K H a xs/\bH K H b ys/\(xs.length≤i∨ys.length≤i)⟩
def HV(z TI TO i1 i2 a b:Addr)(i:Nat)(h:Kp):Prop:=IsZip h z TI TO .none/\SZ h TI (.ref i1) (.ref i2)/\(∃u v,SZ h TO u v)/\h.IsListIter i1 a i/\h.IsTupleIter i2 b i
abbrev DN(h:Kp)(a:Addr):Kp:=h.push { cls:=.type "list_iterator",data:=.fields #[.ref a,.int 0 0]}
abbrev DK(h:Kp)(a b:Addr):Kp:=(DN h a).push { cls:=.type "tuple_iterator",data:=.fields #[.ref b,.int 0 0]}
abbrev DI(h:Kp)(a b:Addr):Kp:=(DK h a b).push { cls:=.type "tuple",data:=.seq #[.ref h.objs.size,.ref (DN h a).objs.size]}
abbrev FT(h:Kp)(a b:Addr):Kp:=(DI h a b).push { cls:=.type "tuple",data:=.seq #[.none,.none]}
abbrev Is(h:Kp)(a b:Addr):Kp:=(FT h a b).push { cls:=.type "zip",data:=.fields #[.none,.bool false,.bool false,.ref (DK h a b).objs.size,.ref (DI h a b).objs.size]}
def Gy(K:J5)(ta:TA):TI:=λσ H R=>ta σ H λvs H1=>∃a b,vs=[.ref a,.ref b]/\(∃xs,aO K H1 a xs)/\(∃ys,bH K H1 b ys)/\R (Fn K a b) H1
def Fo(K:J5)(a b:Addr):It:=
 ⟨λi H=>∃xs ys x y,aO K H a xs/\aO K H b ys/\xs[i]?=some x/\ys[i]?=some y,
  λi H v H'=>∃p x y,H p=none/\v=.ref p/\H'=av H p (.tup [x,y])/\(∀xs,aO K H a xs->xs[i]?=some x)/\∀ys,aO K H b ys->ys[i]?=some y,
  λi H=>∃xs ys,aO K H a xs/\aO K H b ys/\(xs.length≤i∨ys.length≤i)⟩
def HX(z TI TO i1 i2 a b:Addr)(i:Nat)(h:Kp):Prop:=IsZip h z TI TO .none/\SZ h TI (.ref i1) (.ref i2)/\(∃u v,SZ h TO u v)/\h.IsListIter i1 a i/\h.IsListIter i2 b i
abbrev DO(h:Kp)(a:Addr):Kp:=h.push { cls:=.type "list_iterator",data:=.fields #[.ref a,.int 0 0]}
abbrev DM(h:Kp)(a b:Addr):Kp:=(DO h a).push { cls:=.type "list_iterator",data:=.fields #[.ref b,.int 0 0]}
abbrev DJ(h:Kp)(a b:Addr):Kp:=(DM h a b).push { cls:=.type "tuple",data:=.seq #[.ref h.objs.size,.ref (DO h a).objs.size]}
abbrev FU(h:Kp)(a b:Addr):Kp:=(DJ h a b).push { cls:=.type "tuple",data:=.seq #[.none,.none]}
abbrev Iu(h:Kp)(a b:Addr):Kp:=(FU h a b).push { cls:=.type "zip",data:=.fields #[.none,.bool false,.bool false,.ref (DM h a b).objs.size,.ref (DJ h a b).objs.size]}
def Gz(K:J5)(ta:TA):TI:=λσ H R=>ta σ H λvs H1=>∃a b,vs=[.ref a,.ref b]/\(∃xs,aO K H1 a xs)/\(∃ys,aO K H1 b ys)/\R (Fo K a b) H1
section
variable {prog:KZ}{w:Lk}{A:K3}{E:Value->Ka->Prop}
end
section
variable {prog:KZ}{w:Lk}{A:K3}{E:Value->Ka->Prop}{s:Ka}
end
structure Fh(K:J5)(H:Hp)(ys:List V)(kvs:List (List cv×V)):Prop where
 len:ys.length=kvs.length
 row:∀(i:Nat) (kv:List cv×V),kvs[i]?=some kv->∃r b,ys[i]?=some (.ref r)/\bH K H r [.ref b,kv.2]/\H b=some (.tup (kv.1.map kV))
 nd:(kvs.map (·.1)).Nodup
def Gj(K:J5):List V->Hp->VK->Prop:=λvs H Q=>∃(p:Addr) (ob:LY) (ys:List V) (kvs:List (List cv×V)),vs=[.ref p]/\H p=some (.frz ob (.tup ys))/\ob.dict=none/\Fh K H ys kvs/\∀l,H l=none->Q (.ref l) (av H l (.dT kvs))
def Hb(K:J5):List V->Hp->VK->Prop:=λvs H Q=>∃(p:Addr) (ys:List V),vs=[.ref p]/\aO K H p ys/\∀(l:Addr) (ob:LY),H l=none->ob.dict=none->Q (.ref l) (av H l (.frz ob (.tup ys)))
section
variable {X:Cx}{K:J5}
theorem j4(hu:X.A.units+1<cLine)(ho:QE X o td)(hi:QE X i ty)(hs:Dr i):QE X (.Subscript o i pos) (Az td ty):=⟨zt hu ho.p hi.p hs⟩
end
section
set_option autoImplicit true
set_option relaxedAutoImplicit true
theorem cB(he:QE X e ta)(hb:MJ e f X.env (eval e X.env)=eval e X.env):QE X (.Attribute e f pos) (A5 X.K ta f):=⟨Cd he.p hb⟩
theorem iT(ha:QE X o ta)(hv:QE X value tv)(hs:NQ value (some (.Attribute o f pos')) pos.line X.env=Mz false):QS X (.Assign [.Attribute o f pos'] value pos) (Ed X.K ta tv f):=⟨BW ha.p hv.p hs⟩
theorem fc{pl:Sem Bool}(he:QE X o ta)(c:qV X.K C)(hm:iK X.K C m f)(F:bu X.prog X.w X.K X.mg X.base CX k f fd ps sp)(hr:cR k X.A)(hb:aS X.K fd ps ds)(hd:aZ dvs ds)(hx:eQ CX X E)(ha:QA X (e::es) t)(hst:Kr (e::es) X.env=(false,eval e X.env)::Kr es X.env:=by rfl)(hpl:(MW pos (Kr es X.env)).any (·.1)=false:=by rfl) (ht:eval (.Call (.Attribute o m apos) (e::es) [] pos) X.env=(do
   let ov ←eval o X.env
   Ql apos.atName
   let (f,first) ←holding [ov] (P3 ov m pl)
   RH pos f first (MW pos (Kr (e::es) X.env)) (OU pos (NA [] X.env))):=by rfl):QE X (.Call (.Attribute o m apos) (e::es) [] pos) (rg C m sp dvs E ta t):=⟨zp he.p c hm F hr hb hd hx ha.p hst hpl ht⟩
theorem vT{pl:Sem Bool}(he:QE X o ta)(c:qV X.K C)(hm:iK X.K C m f)(F:bu X.prog X.w X.K X.mg X.base CX k f fd ps sp)(hr:cR k X.A)(hb:aS X.K fd ps ds)(hd:aZ dvs ds)(hx:eQ CX X E) (ht:eval (.Call (.Attribute o m apos) [] [] pos) X.env=(do
   let ov ←eval o X.env
   Ql apos.atName
   let (f,first) ←holding [ov] (P3 ov m pl)
   RH pos f first (MW pos (Kr [] X.env)) (OU pos (NA [] X.env))):=by rfl):QE X (.Call (.Attribute o m apos) [] [] pos) (rg C m sp dvs E ta yE):=⟨wy he.p c hm F hr hb hd hx ht⟩
end
structure lY(K:J5)(C:Addr)(n q:K1)(st:Stmt)(f:Addr)(d:Kh):Prop where
 p:Lp K (.ref C) n=some (some (.ref f))
 fn:O5 K (.ref f)=true
 F:dN K n q st f d
section
variable {K:J5}{C:Addr}{n q:K1}{st:Stmt}{f:Addr}{d:Kh}
theorem isM{oc:Value}{od an:Option Addr}{sl:Array (Option Value)}{kV dc pm cd ct:Value}(p:Lp K (.ref C) n=some (some (.ref f)))(fn:O5 K (.ref f)=true)
  (l:K.lookup f=some ⟨oc,od,.func (Mg n q (dh st) (cY st) (aq st) .none kV dc pm an cd ct),sl⟩) (c:OD K cd q=true) (k:Mr K (.ref f)=true) :
  lY K C n q st f (Mg n q (dh st) (cY st) (aq st) .none kV dc pm an cd ct):=⟨p,fn,xA l c k⟩
theorem lY.meth(I:lY K C n q st f d):iK K C n f:=⟨I.p,I.fn,I.F.kp⟩
abbrev BM(n q:K1)(st:Stmt)(us:List Value)(ps:List K1):Prop:=∀(kV dc pm:Value) (an:Option Addr) (cd ct:Value),RG (Mg n q (dh st) (cY st) (aq st) .none kV dc pm an cd ct) ⟨us,[]⟩=Mz (ps.zip us)
theorem lY.b1{x:K1}(I:lY K C n q st f d)(h:∀u,BM n q st [u] [x]:=by exact λ_ _ _ _ _ _ _=>Z):aS K d [x] []:=I.F.binds λa b c e g i us hl=>match us,hl with | [u],_=>h u a b c e g i
theorem lY.b2{x y:K1}(I:lY K C n q st f d)(h:∀u v,BM n q st [u,v] [x,y]:=by exact λ_ _ _ _ _ _ _ _=>Z):aS K d [x,y] []:=I.F.binds λa b c e g i us hl=>match us,hl with | [u,v],_=>h u v a b c e g i
theorem lY.b3{x y z:K1}(I:lY K C n q st f d)(h:∀u v w,BM n q st [u,v,w] [x,y,z]:=by exact λ_ _ _ _ _ _ _ _ _=>Z):aS K d [x,y,z] []:=I.F.binds λa b c e g i us hl=>match us,hl with | [u,v,w],_=>h u v w a b c e g i
theorem lY.b4{x y z t:K1}(I:lY K C n q st f d)(h:∀u v w r,BM n q st [u,v,w,r] [x,y,z,t]:=by exact λ_ _ _ _ _ _ _ _ _ _=>Z):aS K d [x,y,z,t] []:=I.F.binds λa b c e g i us hl=>match us,hl with | [u,v,w,r],_=>h u v w r a b c e g i
end
def EF:XK:=λ_ _ _=>False
def rR(k:Int):Value->Bool
 | .int n _=>n==k
 |_=>false
theorem o7(k:Int):∀{ns:List Int} {us:List Value},aZ (ns.map V.int) us->us.countP (rR k)=ns.count k
 | [],[],_=>rfl
 |n::ns,u::us,h=>by
  cases h with
  |cons a t=>
   obtain⟨tk,rfl⟩:=(show ∃k,u=Mf n k from a);rw[List.countP_cons,List.count_cons,o7 k t];rfl
 | [],_::_,h=>by cases h
 |_::_,[],h=>by cases h
def Gk(K:J5):V->List V->Hp->VK->Prop:=λx vs H Q=>∃(l:Addr) (ns:List Int) (n:Int),x=.ref l/\vs=[.int n]/\aO K H l (ns.map V.int)/\Q (.int (ns.count n:Nat)) H
theorem tL:GI X "list.count" (Gk X.K):=by
 intro pins s σ H x vs v us Q I rx rv h;obtain⟨l,ns,n,rfl,rfl,hq,q⟩:=h
 cases rx
 obtain⟨u,rfl,ru⟩:=rv.one;obtain⟨tk,rfl⟩:=(show ∃k,u=Mf n k from ru);obtain⟨its,r,pl,hz⟩:=I.list hq;obtain⟨⟨cls,dd,data,sl⟩,ho,hc,m,hdt⟩:=id pl.isList;simp only at hc hdt;subst hc hdt;have all:∀y,y∈its->∃a t,y=Mf a t:=λy hy=>by
  obtain⟨i,hi⟩:=Q0 hy;have il:=(Kg.mp hi).1;have lr:=r.length;rw[J7] at lr;obtain⟨a,ha⟩:∃a,ns[i]?=some a:=⟨_,J6 (by omega)⟩;obtain⟨u1,e4,ru1⟩:=aZ.get r (show(ns.map V.int)[i]?=some (V.int a) by rw[Kt,ha];rfl);rw[hi] at e4
  cases e4
  obtain⟨t,e⟩:=(show ∃k,y=Mf a k from ru1);exact⟨a,t,e⟩
 refine Rr Qd ⟨_,ho,Z⟩ PySem.F.entry_list_count (PySem.F.args_list_count_2 _ _) (SeqAt.list_countAt l its.toArray m dd sl (.int n tk) (rR n)) ⟨ho,λy hy=>?_,?_⟩
 ·obtain⟨a,t,rfl⟩:=all y (by simpa using hy);exact λprog w E Q hq=>Se hq
 ·rw[show its.toArray.toList=its from Z,o7 n r];exact⟨.int _,H,I.tok _,⟨_,Z⟩,q⟩
def Fp(d:Addr)(ob:LY)(kvs:List (cv×V)):It:=
 ⟨λi H=>H d=some (.frz ob (.dK kvs))/\i<kvs.length,
  λi H x H'=>H'=H/\∃k v,x=kV k/\kvs[i]?=some (k,v),
  λi H=>H d=some (.frz ob (.dK kvs))/\kvs.length≤i⟩
theorem lc{P:KZ}{w:Lk}{K:J5}{tg:Le}{it d:Addr}{ob:LY}{kvs:List (cv×V)}{es:Array Q2}{ep:Nat}(hob:ob.data=.dict es ep) :
  qP P w K tg (Fp d ob kvs) [it] it (λi h=>h.IsKeyIter it d i kvs.length ep) where
 mem:=by simp
 obj:=λi h st c hc=>by
  have e:c=it:=by simpa using hc
  subst e;obtain⟨o,e,cc,dd⟩:=st;exact⟨o,e,λv z=>by rw[dd] at z;cases z⟩
 keep:=λi h h' st k=>st.at λo e=>k it (by simp) o e
 item:=by
  intro X hP hw hK hc i pins s σ H E I hf st hg;subst hP hw hK;obtain⟨hd,hi⟩:=hg;obtain⟨q0,z,hds,vs,rel,o,es',ep',d1,d2,d3,d4⟩:=(show bo X.prog X.w H s.heap d (.frz ob (.dK kvs)) from I.hok d _ hd);have eo:o=ob:=Lu (d1.symm.trans q0);subst eo;rw[hob] at d3
  cases d3
  have dat:s.heap.DictAt (bD X.prog X.w) d vs ep:=⟨o,es,d1,d2,hob,d4⟩;obtain⟨k,v,hkv'⟩:∃k v,kvs[i]?=some (k,v):=⟨(kvs[i]'hi).1,(kvs[i]'hi).2,J6 hi⟩;obtain⟨u,hu,ru⟩:=KV.get rel hkv';rw[rel.length] at st;obtain⟨f0,f1,f2,f3,f4,f5⟩:=hf it (by simp);refine wpAny_pyNext_dict_item st dat hu λkey h1 hkey st' sb=>?_
  have I1:Inv X pins σ H { s with heap:=h1}:=I.turned (t':=s.toks) (λb o hb e=>sb.extBut b o hb e) f0 f1 f3 f4 f5;obtain⟨o2,e2,c2,dd2⟩:=id st';exact⟨key,Z,rT (s:={ s with heap:=h1}) e2 c2 dd2 (by decide) ⟨kV k,H,I1,AO hkey,⟨rfl,k,v,rfl,hkv'⟩,by rw[rel.length];exact st',λb hb=>(hf b hb).1⟩⟩
 done:=by
  intro X hP hw hK hc i pins s σ H E I hf st hg;subst hP hw hK;obtain⟨hd,hi⟩:=hg;obtain⟨q0,z,hds,vs,rel,o,es',ep',d1,d2,d3,d4⟩:=(show bo X.prog X.w H s.heap d (.frz ob (.dK kvs)) from I.hok d _ hd);have eo:o=ob:=Lu (d1.symm.trans q0);subst eo;rw[hob] at d3
  cases d3
  have dat:s.heap.DictAt (bD X.prog X.w) d vs ep:=⟨o,es,d1,d2,hob,d4⟩;rw[rel.length] at st hi;obtain⟨f0,f1,f2,f3,f4,f5⟩:=hf it (by simp);exact wpAny_pyNext_dict_end (I.ok.hd hc) st dat (MA hi) λh1 ex=>⟨Z,I.turned (t':=s.toks) (λb o hb e=>ex b o hb e) f0 f1 f3 f4 f5⟩
 self:=λ_ _ _ _ _ st h=>wpAny_pyIter_keyiter st h
def Hx(td:TE):TI:=λσ H R=>td σ H λx H1=>∃d kvs,x=.ref d/\H1 d=some (.dK kvs)/\∀ob,R (Fp d ob kvs) (av H1 d (.frz ob (.dK kvs)))
theorem io{X:Cx}{K:J5}{e:Le}{f:K1}{pos:NW}{ta:TE}(hK:X.K=K)(he:QE X e ta)(hb:MJ e f X.env (eval e X.env)=eval e X.env):QE X (.Attribute e f pos) (A5 K ta f):=by subst hK;exact cB he hb
theorem tw(hu:X.A.units+1<cLine)(hi:QE X i ty)(ho:QE X o td)(hm:Nr .NotIn o=false):QT X (.Compare i [.NotIn] [o] pos) (nT (rh ty td)):=⟨BR (tJ hu hi.p ho.p) hm⟩
theorem nP(h:H d=some (.frz ob (.dK kvs))):Dh (Fp d ob kvs) H kvs.length (λi x _=>∃k v,x=kV k/\kvs[i]?=some (k,v)) where
 go:=λi H' hi s=>⟨s _ _ h,hi⟩
 stop:=λH' s=>⟨s _ _ h,Kb _⟩
 yld:=λi H' x H'' hi s y=>by obtain⟨rfl,q⟩:=y;exact⟨aC.refl _,q⟩
theorem uf:cM X (.builtin "len") (λxs H Q=>∃(a:Addr) (kvs:List (cv×V)),xs=[.ref a]/\Rd H a (.dK kvs)/\Q (.int kvs.length) H):=by
 intro pins s σ H vs us Q I r h;obtain⟨a,kvs,rfl,e,q⟩:=h
 cases r with
 |cons r1 r2=>
  cases r2
  cases r1
  exact E5 I e λt s' I'=>⟨.int kvs.length,H,I',⟨t,Z⟩,q⟩
section
variable {X:Cx}{pos:NW}
def El(K:J5):V->V->Hp->VK->Prop:=λx y H Q=>∃(p:Addr) (xs:List V) (i:Nat) (v:V),x=.ref p/\y=.int (i:Nat)/\aO K H p xs/\xs[i]?=some v/\Q v H
theorem gD:Dp X (El X.K):=by
 intro pins s σ H o i ov iv Q I ro ri h;obtain⟨p,xs,n,v,rfl,rfl,hq,he,q⟩:=h
 cases ro
 obtain⟨t,rfl⟩:=ri;obtain⟨its,r,pl,hz⟩:=I.list hq;obtain⟨w,ew,rw'⟩:=r.get he;have hl:=r.length;have hn:=kh;have hi:=(Kg.mp he).1;exact wpAny_getItem_list pl.isList (by omega) (by omega) (by simpa using ew) ⟨v,H,I,rw',q⟩
theorem jv{o i e:Le}{to ti te:TE}{tget:V->V->Hp->VK->Prop}{tip:AX}{tset:qR}{op:QL}{tpos:NW}(ho:QE X o to)(hi:QE X i ti)(hg:Dp X tget)(he:QE X e te)(hp:DF X op tip)(hs:yn X tset)
  (ha:∀ov iv new,augStore i ov iv new=(do holding [new,ov,iv] (RA ov iv new);Tu [new,ov,iv] [];Mz .next):=by intros;rfl):QS X (.AugAssign (.Subscript o i tpos) op e pos) (AB to ti te tget tip tset):=⟨zc ho.p hi.p hg he.p hp hs ha⟩
set_option autoImplicit true in
set_option relaxedAutoImplicit true in
theorem yU(M:Mk X.K C f)(F:bu X.prog X.w X.K X.mg X.base CX k f fd ps sp)(hr:cR (k+1) X.A)(hg:Gl X x)(hm:X.mg x=some (.ref C))(hb:aS X.K fd ps ds)(hd:aZ dvs ds)(hx:eQ CX X E)(ha:QA X (e::es) t)(hdb:(x==("__debug__" : K1))=false:=by decide)(he:Kr (e::es) X.env=(false,eval e X.env)::Kr es X.env:=by rfl)(hpl:(MW pos (Kr es X.env)).any (·.1)=false:=by rfl):QE X (.Call (.Name x p) (e::es) [] pos) (Ax C sp dvs E t):=⟨zq M F hr hg hm hb hd hx ha.p hdb he hpl⟩
end
def xm(td:TE):TI:=λσ H R=>td σ H λx H1=>∃d kvs,x=.ref d/\((H1 d=some (.dK kvs)/\∀ob,R (Fp d ob kvs) (av H1 d (.frz ob (.dK kvs))))∨∃ob,H1 d=some (.frz ob (.dK kvs))/\R (Fp d ob kvs) H1)
theorem wc(ho:PE X o td):PI X tg o (xm td):=by
 intro pins s σ H R I h;refine bJ (ho pins s σ H _ I h) λu s1 ⟨x,H1,I1,rx,d,kvs,ex,cs⟩=>?_
 subst ex;obtain rfl:u=K7 d:=rx;rcases cs with⟨e,q⟩ | ⟨ob,e,q⟩
 ·obtain⟨z,hds,vs,rel,dd⟩:=xO I1.hok e;obtain⟨o',es,ep,d1,d2,d3,d4⟩:=id dd;have dat:s1.heap.DictAt (bD X.prog X.w) d vs ep:=⟨o',es,d1,d2,d3,d4⟩;refine R5 hds dat ?_;have k2:∀b o,s1.heap.get? b=some o->(s1.heap.push { cls:=.type "dict_keyiterator",data:=.fields #[.ref d,.int 0 0,.int vs.length 0,.int ep 0]}).get? b=some o:=λb o q=>Kd _ q
  have I2:=I1.kept (t':=s1.toks) k2;have hit:=Kq s1.heap (o:={ cls:=.type "dict_keyiterator",data:=.fields #[.ref d,.int 0 0,.int vs.length 0,.int ep 0]}) Z;have dl:d<s1.heap.objs.size:=Kx d1;generalize s1.heap.push { cls:=.type "dict_keyiterator",data:=.fields #[.ref d,.int 0 0,.int vs.length 0,.int ep 0]}=hE at I2 hit k2 ⊢;have I3:=jE (h':=hE) (t':=s1.toks) (ob:=.frz o' (.dK kvs)) I2 (by rw[e];exact MB) ⟨Z,λ_ _=>Z⟩ ⟨_,k2 _ _ d1⟩ ⟨k2 _ _ d1,z,hds,vs,rel,o',es,ep,k2 _ _ d1,d2,d3,d4⟩;have nd:s1.heap.objs.size≠d:=NC dl;refine⟨_,[s1.heap.objs.size],_,_,_,Z,I3,lc d3,⟨_,hit,Z,by rw[rel.length];rfl⟩,λc hc=>?_,q o'⟩;have hc':c=s1.heap.objs.size:=by simpa using hc
  subst hc';exact I1.fpOk (Kb _) (by rw[ak nd];exact I1.hok.fresh (Kb _))
 ·obtain⟨q0,z,hds,vs,rel,o',es,ep,d1,d2,d3,d4⟩:=(show bo X.prog X.w H1 s1.heap d (.frz ob (.dK kvs)) from I1.hok d _ e);have eo:o'=ob:=Lu (d1.symm.trans q0);subst eo;have dat:s1.heap.DictAt (bD X.prog X.w) d vs ep:=⟨o',es,d1,d2,d3,d4⟩;refine R5 hds dat ?_;have k2:∀b o,s1.heap.get? b=some o->(s1.heap.push { cls:=.type "dict_keyiterator",data:=.fields #[.ref d,.int 0 0,.int vs.length 0,.int ep 0]}).get? b=some o:=λb o q=>Kd _ q
  have I2:=I1.kept (t':=s1.toks) k2;have hit:=Kq s1.heap (o:={ cls:=.type "dict_keyiterator",data:=.fields #[.ref d,.int 0 0,.int vs.length 0,.int ep 0]}) Z;generalize s1.heap.push { cls:=.type "dict_keyiterator",data:=.fields #[.ref d,.int 0 0,.int vs.length 0,.int ep 0]}=hE at I2 hit k2 ⊢;refine⟨_,[s1.heap.objs.size],_,_,_,Z,I2,lc d3,⟨_,hit,Z,by rw[rel.length];rfl⟩,λc hc=>?_,q⟩;have hc':c=s1.heap.objs.size:=by simpa using hc
  subst hc';exact I1.fpOk (Kb _) (I1.hok.fresh (Kb _))
theorem vN(ho:QE X o td):QI X tg o (xm td):=⟨wc ho.p⟩
theorem xU{β:Type}{K:J5}{J:It}{H:Hp}{D:Addr}{n:Nat}{Pw:Nat->V->Hp->Prop}(w:Dh J H n Pw){P:Hp->V->β->Prop}{f:Nat->β}{p:Nat->Bool}{src:List (Option Nat)}{σ:L2.St}{g:TG}{tt:TT}{te:TE}{Q:Hp->Prop}
  (mono:∀H H' v d,aT K H H'->P H v d->P H' v d) (hD:H D=none) (hn:n≤1000)
  (turn:∀(i:Nat) (x:V) (H':Hp),i<n->aC H H'->Pw i x H'->∀(R:VK) (E:Hp->Prop),(p i=true->∀v H'',aC H' H''->P H'' v (f i)->R v H'')->(p i=false->∀H'',aC H' H''->E H'')→
   g x (cr src σ) H' λσ2 H2=>eU (cr src σ) σ2/\tt σ2 H2 λok H3=>if ok=true then te σ2 H3 R else E H3)
  (fin:∀H' ys,aC H H'->H' D=some (.lst ys)->cK (P H') ys (((J9 n).filter p).map f)->Q H') :
  ∃W:Nat->Nat->List V->Hp->Prop,(∃m,W 0 m [] (av H D (.lst [])))/\∀i m ys H,W i m ys H->(J.stop i H/\Q H)∨(J.go i H/\∀x H',J.yld i H x H'→
   g x (cr src σ) H' λσ2 H2=>eU (cr src σ) σ2/\tt σ2 H2 λok H3=>
    if ok=true then te σ2 H3 λy H4=>H4 D=some (.lst ys)/\ys.length<sizeLine/\∃m',m'<m/\W (i+1) m' (ys++[y]) (av H4 D (.lst (ys++[y]))) else ∃m',m'<m/\W (i+1) m' ys H3):=by
 refine⟨λi m ys H'=>i≤n/\m=n-i/\H' D=some (.lst ys)/\aC H H'/\cK (P H') ys (((J9 i).filter p).map f),⟨_,KJ _,Z,zqd,ai hD _,.nil⟩,?_⟩;rintro i m ys H1 ⟨hi,rfl,d1,s1,al1⟩;by_cases hix:i<n
 ·refine .inr ⟨w.go i H1 hix s1,λx H2 y=>?_⟩;obtain⟨s2,pw⟩:=w.yld i H1 x H2 hix s1 y;have d2:=s2 _ _ d1;have al2:=al1.mono λv d p=>mono _ _ _ _ (aT.same s2) p
  have tk:J9 (i+1)=J9 i++[i]:=LU;refine turn i x H2 hix (s1.trans s2) pw _ _ (λo3 v H3 s3 p3=>?_) λn3 H3 s3=>?_
  ·have d3:H3 D=some (.lst ys):=s3 _ _ d2;have tm:aT K H2 (av H3 D (.lst (ys++[v]))):=(aT.same s3).trans (aT.up d3 _);have ly:ys.length≤1000:=by
    rw[al1.len,J7];exact K5 (Lm _ _) (by rw[KB];omega)
   refine⟨d3,bf ly,n-(i+1),by omega,hix,Z,zqd,λb o q=>?_,?_⟩
   ·rw[ak (aB q hD)];exact s3 _ _ (s2 _ _ (s1 _ _ q))
   ·rw[tk,Lv,Lc o3,Mh,Ku];exact(al2.mono λv d p=>mono _ _ _ _ tm p).snoc (mono _ _ _ _ (aT.up d3 _) p3)
  ·refine⟨n-(i+1),by omega,hix,Z,s3 _ _ d2,(s1.trans s2).trans s3,?_⟩;rw[tk,Lv,K4 (by rw[n3];decide),Mh,LF];exact al2.mono λv d p=>mono _ _ _ _ (aT.same s3) p
 ·have e:i=n:=by omega
  subst e;exact .inl ⟨w.stop H1 s1,fin H1 ys s1 d1 al1⟩
end B
local macro_rules
 | `(tactic| nofun)=>`(tactic| (extract_lets +lift;try dsimp -zeta -zetaDelta only[L2.Cx.nox,L2.Cx.wish,L2.bI]))
namespace My
open PySem L2 B PyProof.Rows
theorem cz{X:Cx}{pos:NW}(i:Nat){x:K1}{e:Le}{te:TE}{pos':NW}(hN:X.N.Nodup)(he:QE X e te)(hi:X.N[i]?=some x:=by rfl)(hx:yq X.env.scope x:=by first|exact KW Z|exact KR Z)(hs:NQ e (some (.Name x pos')) pos.line X.env=Mz false:=by rfl)(hf:X.fn x=true∨X.env.scope.names.lookup x=some .local:=by first|exact .inl Z|exact .inr Z|assumption):QS X (.Assign [.Name x pos'] e pos) (pT te (ko i)):=BI hN hi hx he hs hf
theorem eV{N P:List K1}{sc:Oa}(a:sc.kind=.function:=by rfl)(b:sc.isCoroutine=false:=by rfl)(c:sc.isGenerator=false:=by rfl)(d:N.Nodup:=by decide +kernel)(e:N.take P.length=P:=by rfl)(f:∀x∈P,sc.names.lookup x=some .local∨sc.names.lookup x=some .cell:=by decide +kernel)(g:∀y∈sc.names,y.2≠.free:=by decide +kernel):aL N P sc:=⟨a,b,c,d,e,f,g⟩
theorem cQ{X:Cx}{k j:Nat}{f:Addr}{fd:Kh}{ps:List K1}{sp:Sp}{x:K1}{p pos:NW}{e:Le}{es:List Le}{t:TA}(F:bu X.prog X.w X.K X.mg X.base dP k f fd ps sp)(hr:cR j X.A)(hm:X.mg x=some (.ref f))(hk:Mr X.K (.ref f)=true)(hb:aS X.K fd ps [])(ha:QA X (e::es) t)(hl:k≤j:=by decide)(hg:Gl X x:=by rfl)(hdb:(x==("__debug__" : K1))=false:=by decide)(he:Kr (e::es) X.env=(false,eval e X.env)::Kr es X.env:=by rfl)(hpl:(MW pos (Kr es X.env)).any (·.1)=false:=by rfl):QE X (.Call (.Name x p) (e::es) [] pos) (uA sp [] E0 t):=gz F (hr.mono hl) hg hm hk hb .nil dW ha hdb he hpl
theorem bL{X:Cx}{a b:Le}{ta tb:TE}{pos:NW}{r:R2}(hr:Dt X r)(ha:QE X a ta)(hb:QE X b tb)(hs:nK b:=by exact λ_ _=>Z):QE X (.Subscript a b pos) (yD r ta tb):=bG hr ha hb hs
theorem JU{K:J5}{x qual:K1}{st:Stmt}{f:Addr}{fd:Kh}{ps:List K1}(F:dN K x qual st f fd) (h:∀(kV doc pm:Value) (an:Option Addr) (cdv ct:Value) (us:List Value),us.length=ps.length->RG (Mg x qual (dh st) (cY st) (aq st) .none kV doc pm an cdv ct) ⟨us,[]⟩=Mz (ps.zip us):=by
 intro _ _ _ _ _ _ us hl
 match us,hl with
 | [],h2=>first|rfl | (simp at h2)
 | [_],h2=>first|rfl | (simp at h2)
 | [_,_],h2=>first|rfl | (simp at h2)
 | [_,_,_],h2=>first|rfl | (simp at h2)
 | [_,_,_,_],h2=>first|rfl | (simp at h2)
 |_::_::_::_::_::_,h2=>simp at h2):aS K fd ps []:=F.binds h
def top(i:Nat):Stmt:=PySem.Challenge.pw_paceplan_k63_fits_of_hands.main.body.getD i (.Pass ⟨0,0,0,0⟩)
abbrev vd:Stmt:=top 2
abbrev Br:Stmt:=top 3
abbrev vq:Stmt:=top 4
abbrev Bx:Stmt:=top 12
abbrev uZ:Stmt:=top 13
abbrev uV:Stmt:=top 14
abbrev uY:Stmt:=top 15
abbrev uX:Stmt:=top 16
abbrev u4:Stmt:=top 17
abbrev uW:Stmt:=top 18
abbrev vA:Stmt:=top 19
abbrev Bp:Stmt:=top 24
abbrev vo:Stmt:=top 25
abbrev u3:Stmt:=top 28
abbrev vn:Stmt:=top 29
abbrev vz:Stmt:=top 31
abbrev vm:Stmt:=top 32
abbrev vc:Stmt:=top 33
abbrev vb:Stmt:=top 34
abbrev va:Stmt:=top 35
abbrev vi:Stmt:=top 36
abbrev vh:Stmt:=top 37
abbrev u0:Stmt:=top 38
abbrev vy:Stmt:=top 39
abbrev vg:Stmt:=top 40
abbrev u9:Stmt:=top 41
abbrev vf:Stmt:=top 42
abbrev u8:Stmt:=top 43
abbrev u7:Stmt:=top 44
abbrev vx:Stmt:=top 45
abbrev vw:Stmt:=top 46
abbrev Bt:Stmt:=top 47
abbrev u6:Stmt:=top 48
abbrev u5:Stmt:=top 49
abbrev ve:Stmt:=top 50
abbrev uU:Stmt:=top 51
abbrev vD:Stmt:=d8 (top 27) 0
abbrev Bs:Stmt:=d8 (top 27) 1
abbrev Bv:Stmt:=d8 (top 27) 2
abbrev Bw:Stmt:=d8 (top 27) 3
abbrev By:Stmt:=d8 (top 27) 5
abbrev Bz:Stmt:=d8 (top 27) 6
abbrev vC:Stmt:=d8 (top 27) 7
abbrev vB:Stmt:=d8 (top 27) 8
abbrev Bu:Stmt:=d8 (top 27) 9
set_option genInjectivity false in
structure Ad where
 a_Q28:Addr
 d_Q28:Kh
 a_Q8:Addr
 d_Q8:Kh
 a_Q18:Addr
 d_Q18:Kh
 a_Q2:Addr
 d_Q2:Kh
 a_Q42:Addr
 d_Q42:Kh
 a_Q46:Addr
 d_Q46:Kh
 a_Q43:Addr
 d_Q43:Kh
 a_Q44:Addr
 d_Q44:Kh
 a_Q37:Addr
 d_Q37:Kh
 a_Q45:Addr
 d_Q45:Kh
 a_Q13:Addr
 d_Q13:Kh
 a_Q9:Addr
 d_Q9:Kh
 a_Q19:Addr
 d_Q19:Kh
 a_Q38:Addr
 d_Q38:Kh
 a_Q20:Addr
 d_Q20:Kh
 a_Q14:Addr
 d_Q14:Kh
 a_Q21:Addr
 d_Q21:Kh
 a_Q29:Addr
 d_Q29:Kh
 a_Q30:Addr
 d_Q30:Kh
 a_Q31:Addr
 d_Q31:Kh
 a_Q22:Addr
 d_Q22:Kh
 a_Q23:Addr
 d_Q23:Kh
 a_Q40:Addr
 d_Q40:Kh
 a_Q15:Addr
 d_Q15:Kh
 a_Q24:Addr
 d_Q24:Kh
 a_Q32:Addr
 d_Q32:Kh
 a_Q25:Addr
 d_Q25:Kh
 a_Q33:Addr
 d_Q33:Kh
 a_Q34:Addr
 d_Q34:Kh
 a_Q16:Addr
 d_Q16:Kh
 a_Q17:Addr
 d_Q17:Kh
 a_Q6:Addr
 d_Q6:Kh
 a_Q35:Addr
 d_Q35:Kh
 a_Q36:Addr
 d_Q36:Kh
 a_Q26:Addr
 d_Q26:Kh
 a_Q47:Addr
 d_Q47:Kh
 a_Q10:Addr
 d_Q10:Kh
 a_Q7:Addr
 d_Q7:Kh
 a_Q4:Addr
 d_Q4:Kh
 a_Q3:Addr
 d_Q3:Kh
 a_Q1:Addr
 d_Q1:Kh
 a_Q0:Addr
 d_Q0:Kh
 a_Q11:Addr
 d_Q11:Kh
 a_Q12:Addr
 d_Q12:Kh
 a_Q5:Addr
 d_Q5:Kh
 c_Pouring:Addr
 c_NOUGHT:Addr
 k_TURNS:Tx
 k_FITS:Tx
 k_MUCH:Tx
 c_Q27:Addr
 c_Q41:Addr
 c_Q39:Addr
structure eS(K:J5)(mg:K1->Option Value)(t:Ad):Prop where
 F_Q28:dN K "is_whole" "is_whole" vd t.a_Q28 t.d_Q28
 b_Q28:aS K t.d_Q28 ["thing"] []
 m_Q28:mg "is_whole"=some (.ref t.a_Q28)
 F_Q8:dN K "is_number_of" "is_number_of" Br t.a_Q8 t.d_Q8
 b_Q8:aS K t.d_Q8 ["thing","count"] []
 m_Q8:mg "is_number_of"=some (.ref t.a_Q8)
 F_Q18:dN K "is_rising" "is_rising" vq t.a_Q18 t.d_Q18
 b_Q18:aS K t.d_Q18 ["thing","count"] []
 m_Q18:mg "is_rising"=some (.ref t.a_Q18)
 F_Q2:dN K "greatest_divisor" "greatest_divisor" Bx t.a_Q2 t.d_Q2
 b_Q2:aS K t.d_Q2 ["one","other"] []
 m_Q2:mg "greatest_divisor"=some (.ref t.a_Q2)
 F_Q42:dN K "ratio" "ratio" uZ t.a_Q42 t.d_Q42
 b_Q42:aS K t.d_Q42 ["top","bottom"] []
 m_Q42:mg "ratio"=some (.ref t.a_Q42)
 F_Q46:dN K "plus" "plus" uV t.a_Q46 t.d_Q46
 b_Q46:aS K t.d_Q46 ["one","other"] []
 m_Q46:mg "plus"=some (.ref t.a_Q46)
 F_Q43:dN K "minus" "minus" uY t.a_Q43 t.d_Q43
 b_Q43:aS K t.d_Q43 ["one","other"] []
 m_Q43:mg "minus"=some (.ref t.a_Q43)
 F_Q44:dN K "times" "times" uX t.a_Q44 t.d_Q44
 b_Q44:aS K t.d_Q44 ["one","other"] []
 m_Q44:mg "times"=some (.ref t.a_Q44)
 F_Q37:dN K "is_less" "is_less" u4 t.a_Q37 t.d_Q37
 b_Q37:aS K t.d_Q37 ["one","other"] []
 m_Q37:mg "is_less"=some (.ref t.a_Q37)
 F_Q45:dN K "total" "total" uW t.a_Q45 t.d_Q45
 b_Q45:aS K t.d_Q45 ["some"] []
 m_Q45:mg "total"=some (.ref t.a_Q45)
 F_Q13:dN K "whole_parts" "whole_parts" vA t.a_Q13 t.d_Q13
 b_Q13:aS K t.d_Q13 ["some"] []
 m_Q13:mg "whole_parts"=some (.ref t.a_Q13)
 F_Q9:dN K "bound_amount" "bound_amount" Bp t.a_Q9 t.d_Q9
 b_Q9:aS K t.d_Q9 ["work","top","turns"] []
 m_Q9:mg "bound_amount"=some (.ref t.a_Q9)
 F_Q19:dN K "lets_much" "lets_much" vo t.a_Q19 t.d_Q19
 b_Q19:aS K t.d_Q19 ["works","hands","top","thing"] []
 m_Q19:mg "lets_much"=some (.ref t.a_Q19)
 F_Q38:dN K "plan_of" "plan_of" u3 t.a_Q38 t.d_Q38
 b_Q38:aS K t.d_Q38 ["rows"] []
 m_Q38:mg "plan_of"=some (.ref t.a_Q38)
 F_Q20:dN K "hands_fit" "hands_fit" vn t.a_Q20 t.d_Q20
 b_Q20:aS K t.d_Q20 ["works","hands","top"] []
 m_Q20:mg "hands_fit"=some (.ref t.a_Q20)
 F_Q14:dN K "_law_cell_at" "_law_cell_at" vz t.a_Q14 t.d_Q14
 b_Q14:aS K t.d_Q14 ["_law_script","_law_k"] []
 m_Q14:mg "_law_cell_at"=some (.ref t.a_Q14)
 F_Q21:dN K "_law_draws" "_law_draws" vm t.a_Q21 t.d_Q21
 b_Q21:aS K t.d_Q21 ["_law_cell","_law_many"] []
 m_Q21:mg "_law_draws"=some (.ref t.a_Q21)
 F_Q29:dN K "_law_take" "_law_take" vc t.a_Q29 t.d_Q29
 b_Q29:aS K t.d_Q29 ["_law_tape","_law_many"] []
 m_Q29:mg "_law_take"=some (.ref t.a_Q29)
 F_Q30:dN K "_law_made" "_law_made" vb t.a_Q30 t.d_Q30
 b_Q30:aS K t.d_Q30 ["_law_top","_law_bottom"] []
 m_Q30:mg "_law_made"=some (.ref t.a_Q30)
 F_Q31:dN K "_law_plus" "_law_plus" va t.a_Q31 t.d_Q31
 b_Q31:aS K t.d_Q31 ["_law_one","_law_other"] []
 m_Q31:mg "_law_plus"=some (.ref t.a_Q31)
 F_Q22:dN K "_law_minus" "_law_minus" vi t.a_Q22 t.d_Q22
 b_Q22:aS K t.d_Q22 ["_law_one","_law_other"] []
 m_Q22:mg "_law_minus"=some (.ref t.a_Q22)
 F_Q23:dN K "_law_times" "_law_times" vh t.a_Q23 t.d_Q23
 b_Q23:aS K t.d_Q23 ["_law_one","_law_other"] []
 m_Q23:mg "_law_times"=some (.ref t.a_Q23)
 F_Q40:dN K "_law_by" "_law_by" u0 t.a_Q40 t.d_Q40
 b_Q40:aS K t.d_Q40 ["_law_one","_law_other"] []
 m_Q40:mg "_law_by"=some (.ref t.a_Q40)
 F_Q15:dN K "_law_is_less" "_law_is_less" vy t.a_Q15 t.d_Q15
 b_Q15:aS K t.d_Q15 ["_law_one","_law_other"] []
 m_Q15:mg "_law_is_less"=some (.ref t.a_Q15)
 F_Q24:dN K "_law_total" "_law_total" vg t.a_Q24 t.d_Q24
 b_Q24:aS K t.d_Q24 ["_law_some"] []
 m_Q24:mg "_law_total"=some (.ref t.a_Q24)
 F_Q32:dN K "_law_most" "_law_most" u9 t.a_Q32 t.d_Q32
 b_Q32:aS K t.d_Q32 ["_law_some"] []
 m_Q32:mg "_law_most"=some (.ref t.a_Q32)
 F_Q25:dN K "_law_works" "_law_works" vf t.a_Q25 t.d_Q25
 b_Q25:aS K t.d_Q25 ["_law_tape","_law_most_here","_law_turns"] []
 m_Q25:mg "_law_works"=some (.ref t.a_Q25)
 F_Q33:dN K "_law_busy" "_law_busy" u8 t.a_Q33 t.d_Q33
 b_Q33:aS K t.d_Q33 ["_law_works_here","_law_some","_law_rooms"] []
 m_Q33:mg "_law_busy"=some (.ref t.a_Q33)
 F_Q34:dN K "_law_sets" "_law_sets" u7 t.a_Q34 t.d_Q34
 b_Q34:aS K t.d_Q34 ["_law_stay"] []
 m_Q34:mg "_law_sets"=some (.ref t.a_Q34)
 F_Q16:dN K "_law_fastest" "_law_fastest" vx t.a_Q16 t.d_Q16
 b_Q16:aS K t.d_Q16 ["_law_works_here","_law_stay","_law_rooms"] []
 m_Q16:mg "_law_fastest"=some (.ref t.a_Q16)
 F_Q17:dN K "_law_speeds" "_law_speeds" vw t.a_Q17 t.d_Q17
 b_Q17:aS K t.d_Q17 ["_law_works_here","_law_hands"] []
 m_Q17:mg "_law_speeds"=some (.ref t.a_Q17)
 F_Q6:dN K "_law_plan_right" "_law_plan_right" Bt t.a_Q6 t.d_Q6
 b_Q6:aS K t.d_Q6 ["_law_works_here","_law_plan"] []
 m_Q6:mg "_law_plan_right"=some (.ref t.a_Q6)
 F_Q35:dN K "_law_much" "_law_much" u6 t.a_Q35 t.d_Q35
 b_Q35:aS K t.d_Q35 ["_law_works_here","_law_hands","_law_top","_law_turns"] []
 m_Q35:mg "_law_much"=some (.ref t.a_Q35)
 F_Q36:dN K "_law_fits" "_law_fits" u5 t.a_Q36 t.d_Q36
 b_Q36:aS K t.d_Q36 ["_law_works_here","_law_hands","_law_top","_law_plan"] []
 m_Q36:mg "_law_fits"=some (.ref t.a_Q36)
 F_Q26:dN K "_law_right" "_law_right" ve t.a_Q26 t.d_Q26
 b_Q26:aS K t.d_Q26 ["_law_works_here","_law_hands","_law_top","_law_swift"] []
 m_Q26:mg "_law_right"=some (.ref t.a_Q26)
 F_Q47:dN K "law" "law" uU t.a_Q47 t.d_Q47
 b_Q47:aS K t.d_Q47 ["_law_script"] []
 m_Q47:mg "law"=some (.ref t.a_Q47)
 F_Q10:dN K "__init__" "Pouring.__init__" vD t.a_Q10 t.d_Q10
 b_Q10:aS K t.d_Q10 ["self","works","free","speed"] []
 K_Pouring:L2.Mk K t.c_Pouring t.a_Q10
 F_Q7:dN K "beside" "Pouring.beside" Bs t.a_Q7 t.d_Q7
 b_Q7:aS K t.d_Q7 ["self","node"] []
 M_Pouring_beside:iK K t.c_Pouring "beside" t.a_Q7
 F_Q4:dN K "reached" "Pouring.reached" Bv t.a_Q4 t.d_Q4
 b_Q4:aS K t.d_Q4 ["self","numbers"] []
 M_Pouring_reached:iK K t.c_Pouring "reached" t.a_Q4
 F_Q3:dN K "turns_of" "Pouring.turns_of" Bw t.a_Q3 t.d_Q3
 b_Q3:aS K t.d_Q3 ["self","sources"] []
 M_Pouring_turns_of:iK K t.c_Pouring "turns_of" t.a_Q3
 F_Q1:dN K "pour_along" "Pouring.pour_along" By t.a_Q1 t.d_Q1
 b_Q1:aS K t.d_Q1 ["self","sources","turn"] []
 M_Pouring_pour_along:iK K t.c_Pouring "pour_along" t.a_Q1
 F_Q0:dN K "most_between" "Pouring.most_between" Bz t.a_Q0 t.d_Q0
 b_Q0:aS K t.d_Q0 ["self","source","node"] []
 M_Pouring_most_between:iK K t.c_Pouring "most_between" t.a_Q0
 F_Q11:dN K "move" "Pouring.move" vC t.a_Q11 t.d_Q11
 b_Q11:aS K t.d_Q11 ["self","source","node","amount"] []
 M_Pouring_move:iK K t.c_Pouring "move" t.a_Q11
 F_Q12:dN K "pour" "Pouring.pour" vB t.a_Q12 t.d_Q12
 b_Q12:aS K t.d_Q12 ["self"] []
 M_Pouring_pour:iK K t.c_Pouring "pour" t.a_Q12
 F_Q5:dN K "amounts" "Pouring.amounts" Bu t.a_Q5 t.d_Q5
 b_Q5:aS K t.d_Q5 ["self","number"] []
 M_Pouring_amounts:iK K t.c_Pouring "amounts" t.a_Q5
 m_Pouring:mg "Pouring"=some (.ref t.c_Pouring)
 cl_Pouring:qV K t.c_Pouring
 n_Pouring_inside:cS K t.c_Pouring "inside"
 n_Pouring_most:cS K t.c_Pouring "most"
 n_Pouring_whole:cS K t.c_Pouring "whole"
 n_Pouring_rest:cS K t.c_Pouring "rest"
 n_Pouring_room:cS K t.c_Pouring "room"
 n_Pouring_poured:cS K t.c_Pouring "poured"
 m_NOUGHT:mg "NOUGHT"=some (.ref t.c_NOUGHT)
 q_NOUGHT:∀H,bH K H t.c_NOUGHT [.int (0),.int (1)]
 m_TURNS:mg "TURNS"=some (.int (24) t.k_TURNS)
 m_FITS:mg "FITS"=some (.str "fits" t.k_FITS)
 m_MUCH:mg "MUCH"=some (.str "much" t.k_MUCH)
 m_Q27:mg "PaceError"=some (.ref t.c_Q27)
 m_Q41:mg "NoMuch"=some (.ref t.c_Q41)
 m_Q39:mg "NoRatio"=some (.ref t.c_Q39)
 z_abs:mg "abs"=none
 z_all:mg "all"=none
 z_bool:mg "bool"=none
 z_enumerate:mg "enumerate"=none
 z_int:mg "int"=none
 z_isinstance:mg "isinstance"=none
 z_len:mg "len"=none
 z_list:mg "list"=none
 z_min:mg "min"=none
 z_range:mg "range"=none
 z_set:mg "set"=none
 z_sorted:mg "sorted"=none
 z_sum:mg "sum"=none
 z_tuple:mg "tuple"=none
def gJ(_:J5):Sp:=λvs H Q _=>∃a b:Int,vs=[.int a,.int b]/\Q (.int (KA a b:Nat)) H
def kO(H:Hp)(Q:VK)(r:R):Prop:=∀p,H p=none->Q (.ref p) (av H p (.tup [.int r.1,.int r.2]))
def Fs(K:J5)(H:Hp)(Q:VK)(r:R):Prop:=∀(v:V) (H':Hp),aC H H'->RV K H' v r->Q v H'
def uI(_:J5):Sp:=λvs H Q _=>∃a b:Int,vs=[.int a,.int b]/\0<b/\b.natAbs<2^4000/\kO H Q (dk a b)
def yJ(K:J5):Sp:=λvs H Q _=>∃(v w:V) (r q:R) (n m:Nat),vs=[v,w]/\RV K H v r/\RV K H w q/\Wf n r/\Wf m q/\n+m+1≤3000/\kO H Q (bj r q)
def uH(K:J5):Sp:=λvs H Q _=>∃(v w:V) (r q:R) (n m:Nat),vs=[v,w]/\RV K H v r/\RV K H w q/\Wf n r/\Wf m q/\n+m+1≤3000/\kO H Q (aJ r q)
def Jo(K:J5)(H:Hp)(a:Addr)(xs:List V):Prop:=aO K H a xs∨bH K H a xs
def uG(K:J5):Sp:=λvs H Q _=>∃(a:Addr) (xs:List V) (rs:List R) (n D:Nat),vs=[.ref a]/\Jo K H a xs/\FP K H xs rs/\(∀r∈rs,Wf n r/\r.2∣(D:Int))/\0<D/\D<2^n/\rs.length≤64/\n≤900/\∀(v':V) (H':Hp),aC H H'->RV K H' v' (cN rs)->Q v' H'
theorem sJ{D i n:Nat}{r:R}(h:∀p∈ps,p.1∣(D:Int))(hr:r.2∣(D:Int)):∀p∈fz ps r.2 r.1,p.1∣(D:Int):=λp hp=>by
 rcases(iI ps r.2 r.1 p.1).mp (Kc.mpr ⟨p,hp,Z⟩) with z|z
 ·obtain⟨q,hq,e⟩:=Kc.mp z;rw[←e];exact h q hq
 ·rw[z];exact hr
theorem xx{D n i:Nat}(ok:jr n i ps)(hd:∀p∈ps,p.1∣(D:Int))(hi:i≤64){q:Int×Int}(hq:q∈ps):Bq D (64*2^n) (dk q.2 q.1):=by
 have b:=(ok.bot q hq).1;refine se b (hd q hq) (K5 (ok.top q hq) ?_);refine K5 (MQ _ hi) (Nat.le_mul_of_pos_right _ (by omega))
theorem yf(h:Bq D (64*2^n*j) r)(hj:j≤64)(h0:0<D)(hD:D<2^n):Wf (2*n+12) r:=by
 refine h.wf h0 (Ky hD (Li (by decide) (by omega))) ?_;have a:64*2^n*j≤64*2^n*64:=Q9 _ hj;have b:64*2^n*j*D<64*2^n*64*2^n:=K9 (MQ _ a) (Nat.mul_lt_mul_of_pos_left hD (Nat.mul_pos (Nat.mul_pos (by decide) (Nat.pow_pos (by decide))) (by decide)));refine Ky b ?_;rw[show 2*n+12=n+(n+12) by omega,QQ,QQ,show(2:Nat)^12=4096 by decide];rw[show 64*2^n*64*2^n=2^n*(2^n*4096) by rw[show(4096:Nat)=64*64 by decide];ac_rfl];exact Kb _
theorem gm{a g:Int}(hg:0<g)(h:a.natAbs<2^4000):(a/g).natAbs<2^4000:=K9 (fm a hg) h
theorem kn(hb:0<b)(h:b.natAbs<2^4000):((KA a b:Nat):Int).natAbs<2^4000:=by
 have z:KA a b≤b.natAbs:=Ri (by omega) (by have:=Nn a b;exact Ng.mpr this);have e:((KA a b:Nat):Int).natAbs=KA a b:=Oo _;omega
theorem aV{i:Int}(h:i.natAbs<2^n)(hn:n≤4000):i.natAbs<2^4000:=Ky h (Li (by decide) hn)
def Fz(K:J5):Sp:=λvs H Q _=>∃(v w:V) (r:R) (n m:Nat),vs=[v,w]/\RV K H v r/\RV K H w ((m:Int),1)/\Wf n r/\0<m/\m≤24/\n≤2000/\Fs K H Q (aJ r (1,(m:Int)))
theorem Ai{K:J5}{H:Hp}{xs:List V}{rs:List R}(h:cK (RV K H) xs rs):FP K H xs rs:=⟨h.len,λi x r hx hr=>by obtain⟨d,hd,p⟩:=h.at hx;rw[hr] at hd;cases hd;exact p⟩
theorem cK.setI{α:Type}{P:V->α->Prop}{v:V}{d:α}(k:P v d):∀{xs:List V} {ds:List α} (i:Nat),cK P xs ds->cK P (xs.set i v) (ds.set i d)
 |_,_,_,.nil=>.nil
 |_,_,0,.cons _ t=>.cons k t
 |_,_,i+1,.cons h t=>.cons h (cK.setI k i t)
theorem cK.rep{α:Type}{P:V->α->Prop}{v:V}{d:α}(k:P v d):∀n:Nat,cK P (Ki n v) (Ki n d)
 |0=>.nil
 |n+1=>.cons k (cK.rep k n)
theorem ir(h:t<n):xg n (t:Int)=some t:=by
 unfold xg;simp;omega
abbrev Wk:=Nat×Nat×R
def qO(K:J5)(H:Hp)(v:V)(w:Wk):Prop:=∃p x,v=.ref p/\bH K H p [.int w.1,.int w.2.1,x]/\RV K H x w.2.2
theorem qO.mono{K:J5}{H H':Hp}{v:V}{w:Wk}(h:qO K H v w)(t:aT K H H'):qO K H' v w:=let ⟨p,x,e,s,r⟩:=h;⟨p,x,e,t _ _ s,r.mono t⟩
def iW(K:J5)(H:Hp)(v:V)(ws:List Wk):Prop:=∃p xs,v=.ref p/\bH K H p xs/\cK (qO K H) xs ws
theorem iW.mono{K:J5}{H H':Hp}{v:V}{ws:List Wk}(h:iW K H v ws)(t:aT K H H'):iW K H' v ws:=let ⟨p,xs,e,s,a⟩:=h;⟨p,xs,e,t _ _ s,a.mono λ_ _ q=>q.mono t⟩
def aF(ls:List Nat):List V:=ls.map λn:Nat=>V.int n
def gL(w:Wk)(t:Nat):Bool:=decide (w.1≤t)&&decide (t≤w.2.1)
def yK(K:J5):Sp:=λvs H Q _=>∃(v:V) (w:Wk) (t:Nat),vs=[v,.int t]/\qO K H v w/\Q (.bl (gL w t)) H
theorem fe{k:Nat}:∀{ds:List Kv},(∀d∈ds,d.depth≤k)->Ol ds≤k
 | [],_=>KJ _
 |d::ds,h=>Nat.max_le.mpr ⟨h d Kf,fe λe he=>h e (Km _ he)⟩
def yy(w:Wk):Kv:=.tuple [.int w.1,.int w.2.1,dR w.2.2]
def Ji(ws:List Wk):Kv:=.tuple (ws.map yy)
def cC:Wk:=(0,0,(0,1))
theorem uE{D N:Nat}(hD:0<D):∀{rs:List R},(∀r∈rs,Bq D N r)->∀{a:R} {M:Nat},Bq D M a->Bq D (M+N*rs.length) (rs.foldl bj a)
 | [],_,a,M,h=>by simpa using h
 |r::rs,hr,a,M,h=>by
  have:=uE hD (λq hq=>hr q (Km _ hq)) (h.plus hD (hr r Kf));rw[NO,Lb,R6];refine this.mono (MN _) (by omega)
theorem E9:Bq D 0 ((0,1):R):=⟨by decide,by decide,⟨(D:Int),by show(D:Int)=1*D;omega⟩,by show 0≤_;exact KJ _⟩
theorem gu(hD:0<D)(h:∀r∈rs,Bq D N r):Bq D (N*rs.length) (cN rs):=by
 have:=uE hD h (E9 (D:=D));rw[Nat.zero_add] at this;exact this
theorem dy{i:Nat}(h:(aF ls)[i]?=some x):∃n,ls[i]?=some n/\x=.int (n:Nat):=by
 unfold aF at h;rw[Kt] at h;obtain⟨n,hn,rfl⟩:=LR.mp h;exact⟨n,hn,Z⟩
theorem Gv{B b:Int}{D:Nat}(hB:0<B)(hb:0<b)(h1:B∣(D:Int))(h2:b∣(D:Int)):0<B*(b/(KA B b:Int))/\B*(b/(KA B b:Int))∣(D:Int)/\B∣B*(b/(KA B b:Int))/\b∣B*(b/(KA B b:Int)):=by
 obtain⟨m,rfl⟩:=Lq (Lw hB);obtain⟨n,rfl⟩:=Lq (Lw hb);have e:(m:Int)*((n:Int)/(KA m n:Int))=((Nat.lcm m n:Nat):Int):=by
  show(m:Int)*((n:Int)/((Nat.gcd m n:Nat):Int))=_;rw[←Int.natCast_ediv,←NL];unfold Nat.lcm;rw[Nat.mul_div_assoc _ (Nat.gcd_dvd_right m n)]
 rw[e];have p:=Nat.lcm_pos (show 0<m by omega) (show 0<n by omega);exact⟨by omega,LZ.mpr (Nat.lcm_dvd (LZ.mp h1) (LZ.mp h2)),LZ.mpr (Nat.dvd_lcm_left m n),LZ.mpr (Nat.dvd_lcm_right m n)⟩
def A0(B:Int)(rs:List R):List Int:=rs.map λr=>r.1*(B/r.2)
theorem xX{z:Int}{n:Nat}(h0:0≤z)(h:z≤(n:Int))(hn:n<2^300):z.natAbs<2^4000:=K9 (show z.natAbs≤n by omega) (Ky hn (Li (by decide) (by decide)))
def jO(K:J5):Sp:=λvs H Q _=>∃(a:Addr) (xs:List V) (rs:List R) (D:Nat),vs=[.ref a]/\aO K H a xs/\cK (RV K H) xs rs/\rs.length≤60/\0<D/\D<2^300/\(∀r∈rs,0<r.2/\r.2∣(D:Int)/\r.1.natAbs<2^4000)/\∀(l:Addr) (B:Int) (H':Hp),aC H H'->H l=none->0<B->B∣(D:Int)->(∀r∈rs,r.2∣B)->H' l=some (.lst ((A0 B rs).map V.int))->Q (.ref l) H'
def ca(ws:List Wk)(t:Nat):Nat:=(ws.filter λw=>gL w t).length
def dJ(ws:List Wk)(fr:List Nat):List Nat:=(J9 fr.length).map λt=>min (fr.getD t 0) (ca ws t)
def yu(K:J5):Sp:=λvs H Q _=>∃(a b:Addr) (xs:List V) (ws:List Wk) (fr:List Nat),vs=[.ref a,.ref b]/\aO K H a xs/\cK (qO K H) xs ws/\ws.length≤20/\aO K H b (aF fr)/\fr.length=24/\∀(l:Addr) (H':Hp),aC H H'->H l=none->H' l=some (.lst (aF (dJ ws fr)))->Q (.ref l) H'
def bP(ws:List Wk)(fr:List Nat):Nat:=(dJ ws fr).sum
def cq(ws:List Wk)(fr:List Nat):R:=aJ (cN (ws.map λw=>w.2.2)) (1,(bP ws fr:Int))
def Fy(K:J5):Sp:=λvs H Q _=>∃(a b:Addr) (xs:List V) (ws:List Wk) (fr:List Nat),vs=[.ref a,.ref b]/\aO K H a xs/\cK (qO K H) xs ws/\ws.length≤20/\(∀w∈ws,Bq 84 12 w.2.2)/\aO K H b (aF fr)/\fr.length=24/\0<bP ws fr/\bP ws fr≤200/\Fs K H Q (cq ws fr)
theorem gh(l:List Nat):aF l=(l.map λn:Nat=>(n:Int)).map V.int:=by unfold aF;rw[KY];rfl
theorem rj:∀l:List Nat,(l.map λn:Nat=>(n:Int)).sum=(l.sum:Nat)
 | []=>rfl
 |a::l=>by
  rw[KH,Mo,Mo,rj l];omega
def sm(f:Nat->Int):Nat->Int
 |0=>0
 |n+1=>sm f n+f n
theorem bg{f g:Nat->Int}:∀{n:Nat},(∀i,i<n->f i=g i)->sm f n=sm g n
 |0,_=>rfl
 |n+1,h=>by
  show sm f n+f n=sm g n+g n;rw[bg λi hi=>h i (by omega),h n (by omega)]
theorem gO{f g:Nat->Int}:∀{n:Nat},(∀i,i<n->f i≤g i)->sm f n≤sm g n
 |0,_=>N6 _
 |n+1,h=>by
  show sm f n+f n≤sm g n+g n;have:=gO (f:=f) (g:=g) (n:=n) λi hi=>h i (by omega)
  have:=h n (by omega);omega
theorem f8{f g:Nat->Int}:∀n:Nat,sm (λi=>f i+g i) n=sm f n+sm g n
 |0=>rfl
 |n+1=>by
  show sm _ n+(f n+g n)=sm f n+f n+(sm g n+g n);rw[f8 n];omega
theorem f7(c:Int){f:Nat->Int}:∀n:Nat,sm (λi=>c*f i) n=c*sm f n
 |0=>(M6 c).symm
 |n+1=>by
  show sm _ n+c*f n=c*(sm f n+f n);rw[f7 c n,Int.mul_add]
theorem fb:∀n:Nat,sm (λ_=>0) n=0
 |0=>rfl
 |n+1=>by
  show sm _ n+0=0;rw[fb n];rfl
theorem mH(f:Nat->Nat->Int)(m:Nat):∀n:Nat,sm (λi=>sm (λt=>f i t) m) n=sm (λt=>sm (λi=>f i t) n) m
 |0=>(fb m).symm
 |n+1=>by
  show sm _ n+sm (λt=>f n t) m=sm (λt=>sm (λi=>f i t) n+f n t) m;rw[mH f m n,f8]
theorem D9(h:∀i,i<n->0≤f i):0≤sm f n:=by
 have:=gO (f:=λ_=>0) (g:=f) (n:=n) h;rw[fb] at this;exact this
theorem mJ(h:∀i,i<n->0≤f i)(hi:i<n):f i≤sm f n:=by
 induction n with
 |zero=>omega
 |succ n ih=>
  show f i≤sm f n+f n;have a:=D9 (f:=f) (n:=n) λi hi=>h i (by omega)
  have b:=h n (by omega);by_cases c:i=n
  ·subst c;omega
  ·have:=ih (λi hi=>h i (by omega)) (by omega);omega
def iB(b:Bool)(x:Int):Int:=if b=true then x else 0
theorem xo(x:Int):iB true x=x:=Z
theorem qA(x:Int):iB false x=0:=Z
theorem AT(b:Bool)(f:Nat->Int)(m:Nat):iB b (sm f m)=sm (λt=>iB b (f t)) m:=by
 cases b with
 |true=>rfl
 |false=>exact(fb m).symm
structure eX where
 n:Nat
 win:Nat->Nat->Bool
 A:Nat->Int
 fr:Nat->Nat
 M:Int
def eX.cnt(N:eX)(S:Nat->Bool)(t:Nat):Int:=sm (λi=>iB (S i&&N.win i t) 1) N.n
def eX.busy(N:eX)(S:Nat->Bool)(t:Nat):Int:=min (N.fr t:Int) (N.cnt S t)
def eX.bz(N:eX)(S:Nat->Bool):Int:=sm (N.busy S) 24
def eX.am(N:eX)(S:Nat->Bool):Int:=sm (λi=>iB (S i) (N.A i)) N.n
def eX.rest(N:eX)(P:Nat->Nat->Int)(i:Nat):Int:=N.A i-sm (P i) 24
def eX.room(N:eX)(P:Nat->Nat->Int)(t:Nat):Int:=N.M*N.fr t-sm (λi=>P i t) N.n
structure nL(N:eX)(P:Nat->Nat->Int):Prop where
 m0:0≤N.M
 lo:∀i t,i<N.n->t<24->0≤P i t
 hi:∀i t,i<N.n->t<24->P i t≤N.M
 out:∀i t,i<N.n->t<24->N.win i t=false->P i t=0
 rs:∀i,i<N.n->0≤N.rest P i
 rm:∀t,t<24->0≤N.room P t
section
variable {N:eX}{P:Nat->Nat->Int}
theorem nL.col(F:nL N P)(S:Nat->Bool)(ht:t<24):sm (λi=>iB (S i) (P i t)) N.n≤N.M*N.busy S t:=by
 have a:sm (λi=>iB (S i) (P i t)) N.n≤sm (λi=>P i t) N.n:=gO λi hi=>by
  have:=F.lo i t hi ht
  cases S i with
  |true=>exact N6 _
  |false=>exact this
 have b:=F.rm t ht;unfold eX.room at b;have c:sm (λi=>iB (S i) (P i t)) N.n≤N.M*N.cnt S t:=by
  unfold eX.cnt;rw[←f7];refine gO λi hi=>?_
  have h1:=F.hi i t hi ht;have h0:=F.m0
  cases c1:S i with
  |false=>show(0:Int)≤N.M*iB (false&&N.win i t) 1;rw[NY,qA,M6];exact N6 _
  |true=>
   cases c2:N.win i t with
   |true=>show P i t≤N.M*1;omega
   |false=>
    have:=F.out i t hi ht c2;show P i t≤N.M*0;rw[this,M6];exact N6 _
 unfold eX.busy;rcases RN (N.fr t:Int) (N.cnt S t) with z|z
 ·rw[Int.min_eq_left z];omega
 ·rw[Int.min_eq_right z];exact c
theorem su(N:eX)(P:Nat->Nat->Int)(S:Nat->Bool):sm (λi=>iB (S i) (N.A i-N.rest P i)) N.n=sm (λt=>sm (λi=>iB (S i) (P i t)) N.n) 24:=by
 rw[←mH];refine bg λi _=>?_
 rw[←AT]
 congr 1
 unfold eX.rest;omega
theorem nL.le(F:nL N P)(S:Nat->Bool):sm (λi=>iB (S i) (N.A i-N.rest P i)) N.n≤N.M*N.bz S:=by
 rw[su];unfold eX.bz;rw[←f7];exact gO λt ht=>F.col S ht
structure An(N:eX)(P:Nat->Nat->Int)(W T:Nat->Bool):Prop where
 fwd:∀i t,i<N.n->t<24->W i=true->N.win i t=true->P i t<N.M->T t=true
 full:∀t,t<24->T t=true->N.room P t=0
 bwd:∀t i,t<24->i<N.n->T t=true->0<P i t->W i=true
theorem An.eq(C:An N P W T)(F:nL N P):sm (λi=>iB (W i) (N.A i-N.rest P i)) N.n=N.M*N.bz W:=by
 refine Int.le_antisymm (F.le W) ?_;rw[su];unfold eX.bz;rw[←f7];refine gO λt ht=>?_
 have m0:=F.m0
 cases c:T t with
 |true=>
  have e:sm (λi=>iB (W i) (P i t)) N.n=sm (λi=>P i t) N.n:=bg λi hi=>by
   cases d:W i with
   |true=>rfl
   |false=>
    have h0:=F.lo i t hi ht;have:¬0<P i t:=λz=>by rw[C.bwd t i ht hi c z] at d;cases d
    show(0:Int)=P i t;omega
  have r:=C.full t ht c;unfold eX.room at r;rw[e,show sm (λi=>P i t) N.n=N.M*N.fr t by omega];exact Me (Int.min_le_left _ _) m0
 |false=>
  have e:sm (λi=>iB (W i) (P i t)) N.n=N.M*N.cnt W t:=by
   unfold eX.cnt;rw[←f7];refine bg λi hi=>?_
   cases d:W i with
   |false=>show(0:Int)=N.M*iB (false&&N.win i t) 1;rw[NY,qA,M6]
   |true=>
    cases d2:N.win i t with
    |false=>
     have:=F.out i t hi ht d2;show P i t=N.M*0;rw[this,M6]
    |true=>
     have h1:=F.hi i t hi ht;have:¬P i t<N.M:=λz=>by rw[C.fwd i t hi ht d d2 z] at c;cases c
     show P i t=N.M*1;omega
  rw[e];exact Me (Int.min_le_right _ _) m0
end
inductive iM(N:eX)(P:Nat->Nat->Int)(s:Nat->Prop):Nat->Prop where
 |st {i:Nat} (hi:i<N.n) (h:s i):iM N P s i
 |fw {i t:Nat} (r:iM N P s i) (hi:i<N.n) (ht:t<24) (w:N.win i t=true) (p:P i t<N.M):iM N P s (N.n+t)
 |bw {t i:Nat} (r:iM N P s (N.n+t)) (ht:t<24) (hi:i<N.n) (p:0<P i t):iM N P s i
noncomputable def dB (p:Prop):Bool:=@decide p (Qe p)
theorem nF:dB p=true↔p:=@decide_eq_true_iff p (Qe p)
section
variable {N:eX}{P:Nat->Nat->Int}{s:Nat->Prop}
theorem iM.node(h:iM N P s v):v<N.n+24:=by
 cases h with
 |st hi _=>omega
 |fw _ _ ht _ _=>omega
 |bw _ _ hi _=>omega
noncomputable def wR (N:eX) (P:Nat->Nat->Int) (s:Nat->Prop):Nat->Bool:=λi=>dB (iM N P s i)
noncomputable def tR (N:eX) (P:Nat->Nat->Int) (s:Nat->Prop):Nat->Bool:=λt=>dB (iM N P s (N.n+t))
theorem ow(full:∀t,t<24->iM N P s (N.n+t)->N.room P t=0):An N P (wR N P s) (tR N P s):=by
 refine⟨λi t hi ht w v p=>?_,λt ht h=>full t ht (nF.mp h),λt i ht hi h p=>?_⟩
 ·exact nF.mpr (.fw (nF.mp w) hi ht v p)
 ·exact nF.mpr (.bw (nF.mp h) ht hi p)
theorem ya(N:eX)(P:Nat->Nat->Int)(S:Nat->Bool):N.am S=sm (λi=>iB (S i) (N.A i-N.rest P i)) N.n+sm (λi=>iB (S i) (N.rest P i)) N.n:=by
 rw[←f8];unfold eX.am;refine bg λi _=>?_
 cases S i with
 |true=>show N.A i=N.A i-N.rest P i+N.rest P i;omega
 |false=>rfl
theorem Ea(F:nL N P)(full:∀t,t<24->iM N P (λi=>0<N.rest P i) (N.n+t)->N.room P t=0)(hi:i<N.n)(h:0<N.rest P i):N.M*N.bz (wR N P λi=>0<N.rest P i)<N.am (wR N P λi=>0<N.rest P i):=by
 have e:=(ow full).eq F;rw[ya N P,e];have nn:∀j,j<N.n->0≤iB (wR N P (λi=>0<N.rest P i) j) (N.rest P j):=λj hj=>by
  cases wR N P (λi=>0<N.rest P i) j with
  |true=>exact F.rs j hj
  |false=>exact N6 _
 have m:=mJ nn hi;have w:wR N P (λi=>0<N.rest P i) i=true:=nF.mpr (.st hi h);rw[w,xo] at m;omega
theorem Dg(F:nL N P)(fu:∀i,i<N.n->N.rest P i=0)(S:Nat->Bool):N.am S≤N.M*N.bz S:=by
 have l:=F.le S;refine OF (Int.le_of_eq ?_) l;unfold eX.am;refine bg λi hi=>?_
 rw[fu i hi,R7]
noncomputable def uR (N:eX) (P:Nat->Nat->Int):Nat->Bool:=λi=>dB (∀t,t<24->iM N P (λk=>k=i) (N.n+t)->N.room P t=0)
end
structure Ps where
 ws:List Wk
 fr:List Nat
 M:Int
 A:List Int
 R:List Int
 O:List Int
 P:List (List Int)
def Jh(M:Int)(li lw lr lo lp:Addr):List (K1×V):=[("inside",.ref li),("most",.int M),("whole",.ref lw),("rest",.ref lr),("room",.ref lo),("poured",.ref lp)]
structure iJ where
 a:Addr
 li:Addr
 lw:Addr
 lr:Addr
 lo:Addr
 lp:Addr
 rows:List Addr
def iJ.l(p:iJ):List Addr:=[p.a,p.lw,p.lr,p.lo,p.lp]++p.rows
structure fX(K:J5)(C:Addr)(H:Hp)(p:iJ)(s:Ps):Prop where
 ins:∃dx,H p.a=some (.ins C dx (Jh s.M p.li p.lw p.lr p.lo p.lp))
 hi:∃xs,bH K H p.li xs/\cK (qO K H) xs s.ws
 hw:H p.lw=some (.lst (s.A.map V.int))
 hr:H p.lr=some (.lst (s.R.map V.int))
 ho:H p.lo=some (.lst (s.O.map V.int))
 hp:H p.lp=some (.lst (p.rows.map V.ref))
 rl:p.rows.length=s.P.length
 row:∀(i:Nat) (q:Addr) (r:List Int),p.rows[i]?=some q->s.P[i]?=some r->H q=some (.lst (r.map V.int))
 nd:p.l.Nodup
 nl:True
theorem fX.same{K:J5}{C:Addr}{H H':Hp}{p:iJ}{s:Ps}(h:fX K C H p s)(z:aC H H'):fX K C H' p s:=by
 obtain⟨dx,i⟩:=h.ins;obtain⟨xs,x1,x2⟩:=h.hi;exact⟨⟨dx,z _ _ i⟩,⟨xs,aT.same z _ _ x1,x2.mono λ_ _ q=>q.mono (aT.same z)⟩,z _ _ h.hw,z _ _ h.hr,z _ _ h.ho,z _ _ h.hp,h.rl,λi q r a b=>z _ _ (h.row i q r a b),h.nd,h.nl⟩
structure eC(s:Ps):Prop where
 n20:s.ws.length≤20
 f24:s.fr.length=24
 wk:∀w∈s.ws,w.1≤w.2.1/\w.2.1<24
 la:s.A.length=s.ws.length
 lr:s.R.length=s.ws.length
 lo:s.O.length=24
 lp:s.P.length=s.ws.length
 row:∀r∈s.P,r.length=24
def Ps.pf(s:Ps)(i t:Nat):Int:=(s.P.getD i []).getD t 0
def Ps.net(s:Ps):eX:=⟨s.ws.length,λi t=>gL (s.ws.getD i cC) t,λi=>s.A.getD i 0,λt=>s.fr.getD t 0,s.M⟩
theorem fX.cell{K:J5}{C:Addr}{H:Hp}{p:iJ}{s:Ps}(pv:fX K C H p s)(ok:eC s){i t:Nat}(hi:i<s.ws.length)(ht:t<24):∃(q:Addr) (r:List Int),H p.lp=some (.lst (p.rows.map V.ref))/\(p.rows.map V.ref)[i]?=some (.ref q)/\H q=some (.lst (r.map V.int))/\(r.map V.int)[t]?=some (.int (s.pf i t)):=by
 have hpl:=pv.rl;have olp:=ok.lp;have h1:i<p.rows.length:=by omega
 have h2:i<s.P.length:=by omega
 have e1:=J6 h1;have e2:=J6 h2;have lr:=ok.row _ (K6 h2);refine⟨p.rows[i],s.P[i],pv.hp,by rw[Kt,e1];rfl,pv.row i _ _ e1 e2,?_⟩;have h3:t<s.P[i].length:=by omega
 rw[Kt,J6 h3];unfold Ps.pf;rw[au [] e2,au 0 (J6 h3)];rfl
def eg(s:Ps)(v:Nat):List Nat:=if s.ws.length≤v then(J9 s.ws.length).filter λi=>decide (0<s.pf i (v-s.ws.length)) else((J9 ((s.ws.getD v cC).2.1+1-(s.ws.getD v cC).1)).filter λk=>decide (s.pf v ((s.ws.getD v cC).1+k)<s.M)).map λk=>s.ws.length+((s.ws.getD v cC).1+k)
def ii(K:J5)(C:Addr):Sp:=λvs H Q _=>∃(p:iJ) (s:Ps) (v:Nat),vs=[.ref p.a,.int (v:Nat)]/\fX K C H p s/\eC s/\v<s.ws.length+24/\∀(l:Addr) (H':Hp),aC H H'->H l=none->H' l=some (.lst (aF (eg s v)))->Q (.ref l) H'
theorem fQ:∀{n:Nat} {l:List Nat},l.Nodup->(∀j∈l,j<n)->l.length≤n
 |0,l,_,h=>by
  cases l with
  |nil=>exact Kb _
  |cons a r=>exact absurd (h a Kf) (by omega)
 |n+1,l,nd,h=>by
  have a:=fQ (n:=n) (l:=l.erase n) (nd.sublist List.erase_sublist) λj hj=>by
   obtain⟨h1,h2⟩:=(KU.mem_erase_iff nd).mp hj;have:=h j h2;omega
  have b:=List.length_erase (a:=n) (l:=l)
  split at b<;>omega
abbrev Sl:=List (Nat×Option Nat)
def oV(o:Option Nat):V:=o.elim V.non λu=>V.int (u:Nat)
def b8(sl:Sl):List (cv×V):=sl.map λx=>(KN (x.1:Int),oV x.2)
structure jq(s:Ps)(ns:List Nat)(sl:Sl):Prop where
 nd:(sl.map (·.1)).Nodup
 lt:∀x∈sl,x.1<s.ws.length+24
 st:∀v∈ns,v∈sl.map (·.1)
 src:∀(i v u:Nat),sl[i]?=some (v,some u)->v∈eg s u/\∃j,j<i/\∃o,sl[j]?=some (u,o)
 root:∀v,(v,none)∈sl->v∈ns
def Fg(s:Ps)(sl:Sl)(p:Nat):Prop:=∀(i v:Nat) (o:Option Nat),i<p->sl[i]?=some (v,o)->∀u∈eg s v,u∈sl.map (·.1)
theorem DP{sl:Sl}{v:Nat}:(dX (b8 sl) (KN (v:Int))).isSome=decide (v∈sl.map (·.1)):=by
 induction sl with
 |nil=>rfl
 |cons x r ih=>
  by_cases c:x.1=v
  ·rw[show b8 (x::r)=(KN (x.1:Int),oV x.2)::b8 r from Z,dD (by rw[c]),decide_eq_true (by rw[KH];exact Kn.mpr (.inl c.symm))];rfl
  ·rw[show b8 (x::r)=(KN (x.1:Int),oV x.2)::b8 r from Z,dE (λz=>c (by have:(KN (x.1:Int):cv)=KN (v:Int):=z;injection this with this;omega)),ih];exact decide_eq_decide.mpr (by rw[KH,Kn];exact⟨.inr,λz=>z.resolve_left λq=>c q.symm⟩)
theorem Eo{sl:Sl}{v:Nat}(h:v∉sl.map (·.1)):dZ (b8 sl) (KN (v:Int)) (oV o)=b8 (sl++[(v,o)]):=by
 have n:dX (b8 sl) (KN (v:Int))=none:=by
  have:=DP (sl:=sl) (v:=v);rw[decide_eq_false h] at this
  cases e:dX (b8 sl) (KN (v:Int)) with
  |none=>rfl
  |some x=>rw[e] at this;cases this
 rw[oA _ n];unfold b8;rw[Ku];rfl
theorem mN{s:Ps}{sl:Sl}(h:jq s ns sl):sl.length≤s.ws.length+24:=by
 have:=fQ (n:=s.ws.length+24) h.nd λj hj=>by
  obtain⟨x,hx,rfl⟩:=Kc.mp hj;exact h.lt x hx
 rw[J7] at this;exact this
theorem jq.more{s:Ps}{sl:Sl}(h:jq s ns sl){v u j:Nat}(hv:v<s.ws.length+24)(nv:v∉sl.map (·.1))(e:v∈eg s u)(hj:sl[j]?=some (u,o)):jq s ns (sl++[(v,some u)]):=by
 refine⟨?_,λx hx=>?_,λw hw=>?_,λi w x hi=>?_,λw hw=>?_⟩
 ·rw[Ku,No];exact⟨h.nd,Lo.mpr ⟨by simp,Nz⟩,λa ha b hb z=>nv (by
   have hb':b=v:=by simpa using hb
   rw[←hb',←z];exact ha)⟩
 ·rcases KG.mp hx with z|z
  ·exact h.lt x z
  ·rw[Ks.mp z];exact hv
 ·rw[Ku];exact La _ (h.st w hw)
 ·by_cases c:i<sl.length
  ·rw[LC c] at hi;obtain⟨a,k,hk,o',ek⟩:=h.src i w x hi;exact⟨a,k,hk,o',by rw[LC (by omega)];exact ek⟩
  ·rw[N3 (by omega)] at hi;have hl:=(Kg.mp hi).1;rw[Ld] at hl;have e0:i-sl.length=0:=by omega
   rw[e0] at hi;have e1:(v,some u)=(w,some x):=by simpa using hi
   injection e1 with e1 e2;injection e2 with e2;subst e1 e2;have jl:=(Kg.mp hj).1;exact⟨e,j,by omega,o,by rw[LC jl];exact hj⟩
 ·rcases KG.mp hw with z|z
  ·exact h.root w z
  ·have:(w,(none:Option Nat))=(v,some u):=Ks.mp z;injection this with _ q
   cases q
theorem sX(nd:ns.Nodup)(lt:∀v∈ns,v<s.ws.length):jq s ns (ns.map λv=>(v,none)):=by
 have e:(ns.map λv=>((v,none):Nat×Option Nat)).map (·.1)=ns:=by rw[KY];exact PF _
 refine⟨by rw[e];exact nd,λx hx=>?_,λv hv=>by rw[e];exact hv,λi v u hi=>?_,λv hv=>?_⟩
 ·obtain⟨v,hv,rfl⟩:=Kc.mp hx;have:=lt v hv;show v<_;omega
 ·rw[Kt] at hi;obtain⟨w,_,q⟩:=LR.mp hi;injection q with _ q
  cases q
 ·obtain⟨w,hw,q⟩:=Kc.mp hv;injection q with q _;rw[←q];exact hw
theorem Df(ok:eC s)(hv:v<s.ws.length+24)(h:u∈eg s v):u<s.ws.length+24:=by
 unfold eg at h
 split at h
 ·have:=Kk.mp (Kl.mp h).1;omega
 ·rename_i c;obtain⟨k,hk,rfl⟩:=Kc.mp h;have hk':=Kk.mp (Kl.mp hk).1;have hl:v<s.ws.length:=by omega
  have:=ok.wk (s.ws.getD v cC) (by rw[au cC (J6 hl)];exact K6 hl);omega
def gY(K:J5)(C:Addr):Sp:=λvs H Q _=>∃(p:iJ) (s:Ps) (a:Addr) (ns:List Nat),vs=[.ref p.a,.ref a]/\fX K C H p s/\eC s/\aO K H a (aF ns)/\ns.Nodup/\(∀v∈ns,v<s.ws.length)/\∀(d:Addr) (sl:Sl) (H':Hp),aC H H'->H d=none->jq s ns sl->Fg s sl sl.length->H' d=some (.dK (b8 sl))->Q (.ref d) H'
theorem dz:gL w t=true↔w.1≤t/\t≤w.2.1:=by
 unfold gL;rw[LG,decide_eq_true_iff,decide_eq_true_iff]
theorem gt(ok:eC s)(hv:v<s.ws.length):u∈eg s v↔∃t,t<24/\u=s.ws.length+t/\gL (s.ws.getD v cC) t=true/\s.pf v t<s.M:=by
 have hw:=ok.wk (s.ws.getD v cC) (by rw[au cC (J6 hv)];exact K6 hv);unfold eg;rw[if_neg (by omega),Kc];constructor
 ·rintro⟨k,hk,rfl⟩;obtain⟨h1,h2⟩:=Kl.mp hk;have h1:=Kk.mp h1;exact⟨_,by omega,Z,dz.mpr ⟨by omega,by omega⟩,of_decide_eq_true h2⟩
 ·rintro⟨t,ht,rfl,h1,h2⟩;obtain⟨a,b⟩:=dz.mp h1;have e:(s.ws.getD v cC).1+(t-(s.ws.getD v cC).1)=t:=by omega
  exact⟨t-(s.ws.getD v cC).1,Kl.mpr ⟨Kk.mpr (by omega),decide_eq_true (by rw[e];exact h2)⟩,by rw[e]⟩
theorem iH:u∈eg s (s.ws.length+t)↔u<s.ws.length/\0<s.pf u t:=by
 unfold eg;rw[if_pos (by omega),Kl,Kk,decide_eq_true_iff,show s.ws.length+t-s.ws.length=t by omega]
theorem yR(ok:eC s)(r:iM s.net s.pf q v)(h:u∈eg s v):iM s.net s.pf q u:=by
 have vl:=r.node;change v<s.ws.length+24 at vl;by_cases c:v<s.ws.length
 ·obtain⟨t,ht,rfl,h1,h2⟩:=(gt ok c).mp h;exact .fw r c ht h1 h2
 ·obtain⟨t,rfl⟩:∃t,v=s.ws.length+t:=⟨v-s.ws.length,by omega⟩;obtain⟨h1,h2⟩:=iH.mp h;exact .bw r (by omega) h1 h2
theorem yI{s:Ps}(ok:eC s){sl:Sl}(S:jq s ns sl)(C:Fg s sl sl.length)(lt:∀v∈ns,v<s.ws.length):v∈sl.map (·.1)↔iM s.net s.pf (λi=>i∈ns) v:=by
 constructor
 ·intro h;obtain⟨x,hx,rfl⟩:=Kc.mp h;obtain⟨i,hi,rfl⟩:=Lj.mp hx;have key:∀k i (hi:i<sl.length),i<k->iM s.net s.pf (λi=>i∈ns) sl[i].1:=λk=>by
   induction k with
   |zero=>intro i _ z;omega
   |succ k ih=>
    intro i hi z;rcases he:sl[i] with⟨w,o⟩;show iM s.net s.pf _ w
    cases o with
    |none=>
     have m:=S.root w (by rw[←he];exact K6 hi);exact .st (lt w m) m
    |some u=>
     obtain⟨b,j,hj,o',ej⟩:=S.src i w u (by rw[J6 hi,he]);obtain⟨jl,ej⟩:=Kg.mp ej;have r:=ih j jl (by omega);rw[ej] at r;exact yR ok r b
  exact key (i+1) i hi (by omega)
 ·intro r;have step:∀v u,v∈sl.map (·.1)->u∈eg s v->u∈sl.map (·.1):=λv u hv hu=>by
   obtain⟨x,hx,rfl⟩:=Kc.mp hv;obtain⟨i,hi,rfl⟩:=Lj.mp hx;exact C i _ _ hi (J6 hi) u hu
  induction r with
  |st hi h=>exact S.st _ h
  |fw r hi ht w p ih=>exact step _ _ ih ((gt ok hi).mpr ⟨_,ht,Z,w,p⟩)
  |bw r ht hi p ih=>exact step _ _ ih (iH.mpr ⟨hi,p⟩)
def gN(n:Nat)(sl:Sl):List Nat:=((J9 sl.length).filter λi=>decide (n≤(sl.getD i (0,none)).1)).map λi=>(sl.getD i (0,none)).1-n
theorem ke{sl:Sl}:t∈gN n sl↔n+t∈sl.map (·.1):=by
 unfold gN;rw[Kc];constructor
 ·rintro⟨i,hi,rfl⟩;obtain⟨h1,h2⟩:=Kl.mp hi;have hl:=Kk.mp h1;have h3:=of_decide_eq_true h2;rw[au _ (J6 hl)] at h3 ⊢;rw[show n+(sl[i].1-n)=sl[i].1 by omega];exact Kc.mpr ⟨sl[i],K6 hl,Z⟩
 ·intro h;obtain⟨x,hx,e⟩:=Kc.mp h;obtain⟨i,hi,rfl⟩:=Lj.mp hx;have g:sl.getD i (0,none)=sl[i]:=au _ (J6 hi);exact⟨i,Kl.mpr ⟨Kk.mpr hi,decide_eq_true (by rw[g];omega)⟩,by rw[g];omega⟩
theorem xK{sl:Sl}{i:Nat}{k:cv}{v:V}(h:(b8 sl)[i]?=some (k,v)):∃x,sl[i]?=some x/\k=KN (x.1:Int)/\v=oV x.2:=by
 unfold b8 at h;rw[Kt] at h;obtain⟨x,hx,q⟩:=LR.mp h;injection q with q1 q2;exact⟨x,hx,q1.symm,q2.symm⟩
structure yk(s:Ps):Prop where
 ok:eC s
 fl:nL s.net s.pf
 rr:∀i,i<s.ws.length->s.R.getD i 0=s.net.rest s.pf i
 oo:∀t,t<24->s.O.getD t 0=s.net.room s.pf t
 am:∀i,i<s.ws.length->0<s.A.getD i 0
theorem df{l:List Int}(h:i<l.length):(l.map V.int)[i]?=some (.int (l.getD i 0)):=by
 rw[Kt,J6 h,au 0 (J6 h)];rfl
theorem DR{s:Ps}{ns:List Nat}{sl:Sl}(S:jq s ns sl){t:Nat}(h:t∈gN s.ws.length sl):t<24:=by
 obtain⟨x,hx,e⟩:=Kc.mp (ke.mp h);have:=S.lt x hx;omega
def nM(K:J5)(C:Addr):Sp:=λvs H Q _=>∃(p:iJ) (s:Ps) (v:Nat),vs=[.ref p.a,.int (v:Nat)]/\fX K C H p s/\yk s/\v<s.ws.length/\∀H',aC H H'->Q (.bl (!uR s.net s.pf v)) H'
def wV(s:Ps)(u v:Nat):Int:=if u<s.ws.length then s.M-s.pf u (v-s.ws.length) else s.pf v (u-s.ws.length)
def Dw(s:Ps)(u v:Nat):Prop:=(u<s.ws.length/\s.ws.length≤v/\v<s.ws.length+24)∨(s.ws.length≤u/\u<s.ws.length+24/\v<s.ws.length)
def fC(K:J5)(C:Addr):Sp:=λvs H Q _=>∃(p:iJ) (s:Ps) (u v:Nat),vs=[.ref p.a,.int (u:Nat),.int (v:Nat)]/\fX K C H p s/\eC s/\Dw s u v/\Q (.int (wV s u v)) H
def jj(P:List (List Int))(i t:Nat)(x:Int):List (List Int):=P.set i ((P.getD i []).set t x)
def Ps.mv(s:Ps)(u v:Nat)(a:Int):Ps:=if u<s.ws.length then { s with P:=jj s.P u (v-s.ws.length) (s.pf u (v-s.ws.length)+a)} else { s with P:=jj s.P v (u-s.ws.length) (s.pf v (u-s.ws.length)-a)}
def kI(p:iJ)(H H':Hp):Prop:=∀b o,b∉p.l->H b=some o->H' b=some o
theorem kI.of(z:aC H H'):kI p H H':=λb o _ h=>z b o h
theorem kI.trans(a:kI p H H1)(b:kI p H1 H2):kI p H H2:=λc o n h=>b c o n (a c o n h)
theorem iJ.row_mem{p:iJ}{i:Nat}(h:p.rows[i]?=some q):q∈p.l:=Kw _ (Ke h)
theorem kI.up(h:q∈p.l)(o:HO):kI p H (av H q o):=λb o' n e=>by
 have nb:b≠q:=λz=>n (by rw[z];exact h)
 rw[ak nb];exact e
section
variable {K:J5}{C:Addr}{H:Hp}{p:iJ}{s:Ps}
theorem fX.kind(pv:fX K C H p s)(h:b∈p.l):(∃dx fs,H b=some (.ins C dx fs))∨∃xs,H b=some (.lst xs):=by
 obtain⟨dx,e⟩:=pv.ins;have h':b=p.a∨b=p.lw∨b=p.lr∨b=p.lo∨b=p.lp∨b∈p.rows:=by
  unfold iJ.l at h
  simpa [or_assoc] using h
 rcases h' with rfl|rfl|rfl|rfl|rfl|h
 ·exact .inl ⟨_,_,e⟩
 ·exact .inr ⟨_,pv.hw⟩
 ·exact .inr ⟨_,pv.hr⟩
 ·exact .inr ⟨_,pv.ho⟩
 ·exact .inr ⟨_,pv.hp⟩
 ·obtain⟨i,hi,rfl⟩:=Lj.mp h;have:=pv.rl;exact .inr ⟨_,pv.row i _ _ (J6 hi) (J6 (by omega))⟩
theorem fX.nds(pv:fX K C H p s):p.a≠p.lw/\p.a≠p.lr/\p.a≠p.lo/\p.a≠p.lp/\p.lw≠p.lr/\p.lw≠p.lo/\p.lw≠p.lp/\p.lr≠p.lo/\p.lr≠p.lp/\p.lo≠p.lp/\(∀q∈p.rows,q≠p.a/\q≠p.lw/\q≠p.lr/\q≠p.lo/\q≠p.lp)/\p.rows.Nodup:=by
 have h:=pv.nd;unfold iJ.l at h;simp only[Qf,O0,Lo,Kn,not_or] at h;obtain⟨⟨a1,a2,a3,a4,a5⟩,⟨b1,b2,b3,b4⟩,⟨c1,c2,c3⟩,⟨d1,d2⟩,e1,f⟩:=h;exact⟨a1,a2,a3,a4,b1,b2,b3,c1,c2,d1,λq hq=>⟨λz=>a5 (z▸hq),λz=>b4 (z▸hq),λz=>c3 (z▸hq),λz=>d2 (z▸hq),λz=>e1 (z▸hq)⟩,f⟩
theorem fX.up(pv:fX K C H p s)(m:q∈p.l)(e:H q=some (.lst xs))(ys:List V)(R' O':List Int)(P':List (List Int))(rl:P'.length=s.P.length)
  (hr:av H q (.lst ys) p.lr=some (.lst (R'.map V.int))) (ho:av H q (.lst ys) p.lo=some (.lst (O'.map V.int))) (hw:av H q (.lst ys) p.lw=some (.lst (s.A.map V.int))) (hp:av H q (.lst ys) p.lp=some (.lst (p.rows.map V.ref)))
  (row:∀(i:Nat) (b:Addr) (r:List Int),p.rows[i]?=some b->P'[i]?=some r->av H q (.lst ys) b=some (.lst (r.map V.int))):fX K C (av H q (.lst ys)) p { s with R:=R',O:=O',P:=P'}:=by
 obtain⟨dx,i⟩:=pv.ins;obtain⟨xw,x1,x2⟩:=pv.hi;have na:p.a≠q:=λz=>by rw[z,e] at i;cases i
 have t:=aT.up (K:=K) e ys;refine⟨⟨dx,by rw[ak na];exact i⟩,⟨xw,?_,x2.mono λ_ _ z=>z.mono t⟩,hw,hr,ho,hp,pv.rl.trans rl.symm,row,pv.nd,pv.nl⟩;rcases x1 with(g | ⟨o,g⟩)|g
 ·exact .inl (.inl (by rw[ak (λz=>by rw[z,e] at g;cases g)];exact g))
 ·exact .inl (.inr ⟨o,by rw[ak (λz=>by rw[z,e] at g;cases g)];exact g⟩)
 ·exact .inr g
theorem fX.setR(pv:fX K C H p s)(R':List Int):fX K C (av H p.lr (.lst (R'.map V.int))) p { s with R:=R'}/\kI p H (av H p.lr (.lst (R'.map V.int))):=by
 obtain⟨n1,n2,n3,n4,n5,n6,n7,n8,n9,n10,nr,_⟩:=pv.nds;have m:p.lr∈p.l:=by simp[iJ.l]
 refine⟨pv.up m pv.hr _ R' s.O s.P Z zqd (by rw[ak n8.symm];exact pv.ho) (by rw[ak n5];exact pv.hw) (by rw[ak n9.symm];exact pv.hp) (λi b r h1 h2=>?_),kI.up m _⟩;rw[ak (nr b (Ke h1)).2.2.1];exact pv.row i b r h1 h2
theorem fX.setO(pv:fX K C H p s)(O':List Int):fX K C (av H p.lo (.lst (O'.map V.int))) p { s with O:=O'}/\kI p H (av H p.lo (.lst (O'.map V.int))):=by
 obtain⟨n1,n2,n3,n4,n5,n6,n7,n8,n9,n10,nr,_⟩:=pv.nds;have m:p.lo∈p.l:=by simp[iJ.l]
 refine⟨pv.up m pv.ho _ s.R O' s.P Z (by rw[ak n8];exact pv.hr) zqd (by rw[ak n6];exact pv.hw) (by rw[ak n10.symm];exact pv.hp) (λi b r h1 h2=>?_),kI.up m _⟩;rw[ak (nr b (Ke h1)).2.2.2.1];exact pv.row i b r h1 h2
theorem fX.setRow(pv:fX K C H p s)(hq:p.rows[j]?=some q)(r':List Int):fX K C (av H q (.lst (r'.map V.int))) p { s with P:=s.P.set j r'}/\kI p H (av H q (.lst (r'.map V.int))):=by
 obtain⟨n1,n2,n3,n4,n5,n6,n7,n8,n9,n10,nr,nd⟩:=pv.nds;have m:=iJ.row_mem hq;have hj:=(Kg.mp hq).1;obtain⟨m1,m2,m3,m4,m5⟩:=nr q (Ke hq);have rl:=pv.rl;have e:=pv.row j q _ hq (J6 (by omega));refine⟨pv.up m e _ s.R s.O (s.P.set j r') (Mw ..) (by rw[ak m3.symm];exact pv.hr) (by rw[ak m4.symm];exact pv.ho) (by rw[ak m2.symm];exact pv.hw) (by rw[ak m5.symm];exact pv.hp) (λi b r h1 h2=>?_),kI.up m _⟩;by_cases c:i=j
 ·subst c;rw[hq] at h1
  cases h1
  rw[L3 (by omega)] at h2
  cases h2
  exact zqd
 ·rw[LO (M5 c)] at h2;have nb:b≠q:=λz=>by
   obtain⟨k1,e1⟩:=Kg.mp h1;obtain⟨k2,e2⟩:=Kg.mp hq;exact c ((Na nd).mp (e1.trans (z.trans e2.symm)))
  rw[ak nb];exact pv.row i b r h1 h2
end
def jh(K:J5)(C:Addr):Sp:=λvs H Q _=>∃(p:iJ) (s:Ps) (u v:Nat) (a:Int),vs=[.ref p.a,.int (u:Nat),.int (v:Nat),.int a]/\fX K C H p s/\eC s/\Dw s u v/\∀H',kI p H H'->fX K C H' p (s.mv u v a)->Q .non H'
theorem mI{f:Nat->Int}{m:Nat}{d:Int}:∀{n:Nat},sm (λi=>f i+if i=m then d else 0) n=sm f n+if m<n then d else 0
 |0=>by show(0:Int)=0+_;rw[if_neg (by omega)];rfl
 |n+1=>by
  show sm _ n+(f n+if n=m then d else 0)=sm f n+f n+_;rw[mI (n:=n)];by_cases c:n=m
  ·rw[if_pos c,if_neg (by omega),if_pos (by omega)];omega
  ·rw[if_neg c];by_cases c2:m<n
   ·rw[if_pos c2,if_pos (by omega)];omega
   ·rw[if_neg c2,if_neg (by omega)];omega
theorem zm(hi:i<P.length)(ht:t<(P.getD i []).length):((jj P i t x).getD i' []).getD t' 0=if i'=i/\t'=t then x else(P.getD i' []).getD t' 0:=by
 unfold jj;by_cases c:i'=i
 ·subst c;have e:(P.set i' ((P.getD i' []).set t x)).getD i' []=(P.getD i' []).set t x:=au [] (L3 hi);rw[e];by_cases c2:t'=t
  ·subst c2;rw[if_pos ⟨Z,Z⟩];exact au 0 (L3 ht)
  ·rw[if_neg (λz=>c2 z.2),KQ,LO (M5 c2),←KQ]
 ·rw[if_neg (λz=>c z.1),KQ (l:=P.set _ _),LO (M5 c),←KQ]
theorem uM:(jj P i t x).length=P.length:=Mw ..
theorem uL(h:∀r∈P,r.length=24)(hi:i<P.length):∀r∈jj P i t x,r.length=24:=λr hr=>by
 rcases List.mem_or_eq_of_mem_set hr with z|z
 ·exact h r z
 ·rw[z,Mw,au [] (J6 hi)];exact h _ (K6 hi)
structure qS(s s':Ps):Prop where
 ws:s'.ws=s.ws
 fr:s'.fr=s.fr
 M:s'.M=s.M
 A:s'.A=s.A
theorem qS.refl(s:Ps):qS s s:=⟨Z,Z,Z,Z⟩
theorem qS.trans(x:qS a b)(y:qS b c):qS a c:=⟨y.ws.trans x.ws,y.fr.trans x.fr,y.M.trans x.M,y.A.trans x.A⟩
theorem qS.net(x:qS s s'):s'.net=s.net:=by unfold Ps.net;rw[x.ws,x.fr,x.M,x.A]
theorem EO(ok:eC s)(a:Int)(e:Dw s u v):∃(i t:Nat) (d:Int),i<s.ws.length/\t<24/\((u=i/\v=s.ws.length+t/\d=a)∨(u=s.ws.length+t/\v=i/\d=-a))∧
  (∀i' t',(s.mv u v a).pf i' t'=s.pf i' t'+if i'=i/\t'=t then d else 0)/\eC (s.mv u v a)/\qS s (s.mv u v a)/\(s.mv u v a).R=s.R/\(s.mv u v a).O=s.O:=by
 have lp:=ok.lp;have key:∀(i t:Nat) (d:Int),i<s.ws.length->t<24->(∀i' t',((jj s.P i t (s.pf i t+d)).getD i' []).getD t' 0=s.pf i' t'+if i'=i/\t'=t then d else 0)/\eC { s with P:=jj s.P i t (s.pf i t+d)}:=λi t d hi ht=>by
  have hl:i<s.P.length:=by omega
  have h24:(s.P.getD i []).length=24:=by rw[au [] (J6 hl)];exact ok.row _ (K6 hl)
  refine⟨λi' t'=>?_,⟨ok.n20,ok.f24,ok.wk,ok.la,ok.lr,ok.lo,uM.trans ok.lp,uL ok.row hl⟩⟩;rw[zm hl (by omega)];by_cases c:i'=i/\t'=t
  ·rw[if_pos c,if_pos c,c.1,c.2]
  ·rw[if_neg c,if_neg c,R8];rfl
 rcases e with⟨h1,h2,h3⟩ | ⟨h1,h2,h3⟩
 ·obtain⟨t,rfl⟩:∃t,v=s.ws.length+t:=⟨v-s.ws.length,by omega⟩;obtain⟨k1,k2⟩:=key u t a h1 (by omega);have ev:s.mv u (s.ws.length+t) a={ s with P:=jj s.P u t (s.pf u t+a)}:=by
   unfold Ps.mv;rw[if_pos h1,show s.ws.length+t-s.ws.length=t by omega]
  rw[ev];exact⟨u,t,a,h1,by omega,.inl ⟨Z,Z,Z⟩,k1,k2,⟨Z,Z,Z,Z⟩,Z,Z⟩
 ·obtain⟨t,rfl⟩:∃t,u=s.ws.length+t:=⟨u-s.ws.length,by omega⟩;obtain⟨k1,k2⟩:=key v t (-a) h3 (by omega);have ev:s.mv (s.ws.length+t) v a={ s with P:=jj s.P v t (s.pf v t+-a)}:=by
   unfold Ps.mv;rw[if_neg (by omega),show s.ws.length+t-s.ws.length=t by omega,Rv]
  rw[ev];exact⟨v,t,-a,h3,by omega,.inr ⟨Z,Z,Z⟩,k1,k2,⟨Z,Z,Z,Z⟩,Z,Z⟩
def nN(s:Ps)(way:List Nat)(a:Int):Nat->Ps
 |0=>s
 |j+1=>(nN s way a j).mv (way.getD (j+1) 0) (way.getD j 0) a
structure yz(s:Ps)(way:List Nat):Prop where
 nd:way.Nodup
 ed:∀j,j+1<way.length->way.getD j 0∈eg s (way.getD (j+1) 0)
 lt:∀j,j<way.length->way.getD j 0<s.ws.length+24
theorem nI(ok:eC s)(hu:u<s.ws.length+24)(h:v∈eg s u):Dw s u v:=by
 by_cases c:u<s.ws.length
 ·obtain⟨t,ht,rfl,_,_⟩:=(gt ok c).mp h;exact .inl ⟨c,by omega,by omega⟩
 ·obtain⟨t,rfl⟩:∃t,u=s.ws.length+t:=⟨u-s.ws.length,by omega⟩;exact .inr ⟨by omega,hu,(iH.mp h).1⟩
theorem yz.inj(W:yz s way)(hi:i<way.length)(hj:j<way.length)(e:way.getD i 0=way.getD j 0):i=j:=by
 rw[au 0 (J6 hi),au 0 (J6 hj)] at e;exact(Na W.nd).mp e
def fG(p:Prop)[Decidable p](a:Int):Int:=if p then a else 0
structure Ij(s:Ps)(way:List Nat)(a:Int)(j:Nat)(s':Ps):Prop where
 ok:eC s'
 sm:qS s s'
 R:s'.R=s.R
 O:s'.O=s.O
 row:∀i,i<s.ws.length->My.sm (s'.pf i) 24=My.sm (s.pf i) 24+fG (way.getD j 0=i) a-fG (way.getD 0 0=i) a
 col:∀t,t<24->My.sm (λi=>s'.pf i t) s.ws.length=My.sm (λi=>s.pf i t) s.ws.length+fG (way.getD 0 0=s.ws.length+t) a-fG (way.getD j 0=s.ws.length+t) a
 cell:∀i t,i<s.ws.length->t<24->s'.pf i t=s.pf i t∨(∃k,k<j/\way.getD (k+1) 0=i/\way.getD k 0=s.ws.length+t/\s'.pf i t=s.pf i t+a)∨(∃k,k<j/\way.getD (k+1) 0=s.ws.length+t/\way.getD k 0=i/\s'.pf i t=s.pf i t-a)
theorem Gr{s:Ps}(ok:eC s){way:List Nat}(W:yz s way)(a:Int):∀j,j<way.length->Ij s way a j (nN s way a j)
 |0,_=>⟨ok,.refl s,Z,Z,λi _=>by rw[show nN s way a 0=s from Z];omega,λt _=>by rw[show nN s way a 0=s from Z];omega,λ_ _ _ _=>.inl Z⟩
 |j+1,hj=>by
  have ih:=Gr ok W a j (by omega);have ed:=nI ok (W.lt (j+1) hj) (W.ed j hj);have ed':Dw (nN s way a j) (way.getD (j+1) 0) (way.getD j 0):=by unfold Dw at ed ⊢;rw[ih.sm.ws];exact ed
  obtain⟨i,t,d,hi,ht,cs,pf,ok',sm',R',O'⟩:=EO ih.ok a ed';rw[ih.sm.ws] at hi cs;show Ij s way a (j+1) ((nN s way a j).mv (way.getD (j+1) 0) (way.getD j 0) a);refine⟨ok',ih.sm.trans sm',R'.trans ih.R,O'.trans ih.O,λi' hi'=>?_,λt' ht'=>?_,λi' t' hi' ht'=>?_⟩
  ·have e:sm (((nN s way a j).mv (way.getD (j+1) 0) (way.getD j 0) a).pf i') 24=sm ((nN s way a j).pf i') 24+fG (way.getD (j+1) 0=i') a-fG (way.getD j 0=i') a:=by
    rw[bg (g:=λt'=>(nN s way a j).pf i' t'+if t'=t then(if i'=i then d else 0) else 0) λt' _=>by
     rw[pf i' t']
     congr 1
     by_cases c1:i'=i<;>by_cases c2:t'=t<;>simp[c1,c2]]
    rw[mI,if_pos ht];unfold fG;rcases cs with⟨c1,c2,c3⟩ | ⟨c1,c2,c3⟩
    ·rw[c1,c2,if_neg (show ¬s.ws.length+t=i' by omega)];by_cases c:i'=i
     ·rw[if_pos c,if_pos c.symm];omega
     ·rw[if_neg c,if_neg (M5 c)];omega
    ·rw[c1,c2,if_neg (show ¬s.ws.length+t=i' by omega)];by_cases c:i'=i
     ·rw[if_pos c,if_pos c.symm];omega
     ·rw[if_neg c,if_neg (M5 c)];omega
   rw[e,ih.row i' hi'];omega
  ·have e:sm (λi'=>((nN s way a j).mv (way.getD (j+1) 0) (way.getD j 0) a).pf i' t') s.ws.length=sm (λi'=>(nN s way a j).pf i' t') s.ws.length+fG (way.getD j 0=s.ws.length+t') a-fG (way.getD (j+1) 0=s.ws.length+t') a:=by
    rw[bg (g:=λi'=>(nN s way a j).pf i' t'+if i'=i then(if t'=t then d else 0) else 0) λi' _=>by
     rw[pf i' t']
     congr 1
     by_cases c1:i'=i<;>by_cases c2:t'=t<;>simp[c1,c2]]
    rw[mI,if_pos hi];unfold fG;rcases cs with⟨c1,c2,c3⟩ | ⟨c1,c2,c3⟩
    ·rw[c1,c2,if_neg (show ¬i=s.ws.length+t' by omega)];by_cases c:t'=t
     ·rw[if_pos c,if_pos (by omega)];omega
     ·rw[if_neg c,if_neg (by omega)];omega
    ·rw[c1,c2,if_neg (show ¬i=s.ws.length+t' by omega)];by_cases c:t'=t
     ·rw[if_pos c,if_pos (by omega)];omega
     ·rw[if_neg c,if_neg (by omega)];omega
   rw[e,ih.col t' ht'];omega
  ·rw[pf i' t'];by_cases c:i'=i/\t'=t
   ·obtain⟨rfl,rfl⟩:=c;rw[if_pos ⟨Z,Z⟩];have base:(nN s way a j).pf i' t'=s.pf i' t':=by
     rcases ih.cell i' t' hi' ht' with z | ⟨k,hk,z1,z2,_⟩ | ⟨k,hk,z1,z2,_⟩
     ·exact z
     ·exfalso;rcases cs with⟨c1,c2,_⟩ | ⟨c1,c2,_⟩
      ·have:=W.inj (i:=k+1) (j:=j+1) (by omega) hj (by omega);omega
      ·have:=W.inj (i:=k+1) (j:=j) (by omega) (by omega) (by omega);have:=W.inj (i:=k) (j:=j+1) (by omega) hj (by omega);omega
     ·exfalso;rcases cs with⟨c1,c2,_⟩ | ⟨c1,c2,_⟩
      ·have:=W.inj (i:=k+1) (j:=j) (by omega) (by omega) (by omega);have:=W.inj (i:=k) (j:=j+1) (by omega) hj (by omega);omega
      ·have:=W.inj (i:=k+1) (j:=j+1) (by omega) hj (by omega);omega
    rw[base];rcases cs with⟨c1,c2,c3⟩ | ⟨c1,c2,c3⟩
    ·exact .inr (.inl ⟨j,by omega,c1,c2,by rw[c3]⟩)
    ·exact .inr (.inr ⟨j,by omega,c1,c2,by rw[c3];omega⟩)
   ·rw[if_neg c,R8];rcases ih.cell i' t' hi' ht' with z | ⟨k,hk,z⟩ | ⟨k,hk,z⟩
    ·exact .inl z
    ·exact .inr (.inl ⟨k,by omega,z⟩)
    ·exact .inr (.inr ⟨k,by omega,z⟩)
theorem km{l:List Int}(hi:i<l.length):(l.set i x).getD j 0=if j=i then x else l.getD j 0:=by
 by_cases c:j=i
 ·subst c;rw[if_pos Z];exact au 0 (L3 hi)
 ·rw[if_neg c,KQ,LO (M5 c),←KQ]
def Ps.less(s:Ps)(tn la:Nat)(a:Int):Ps:={ s with O:=s.O.set tn (s.O.getD tn 0-a),R:=s.R.set la (s.R.getD la 0-a)}
theorem rN(ok:eC s)(tn la:Nat)(a:Int):eC (s.less tn la a):=⟨ok.n20,ok.f24,ok.wk,ok.la,(Mw ..).trans ok.lr,(Mw ..).trans ok.lo,ok.lp,ok.row⟩
theorem Fc(F:yk s)(W:yz s way)(l0:0<way.length)(ht:tn<24)(h0:way.getD 0 0=s.ws.length+tn)(hla:la<s.ws.length)(hl:way.getD (way.length-1) 0=la)(a0:0<a)(ao:a≤s.O.getD tn 0)(ar:a≤s.R.getD la 0)
  (am:∀j,j+1<way.length->a≤wV s (way.getD (j+1) 0) (way.getD j 0)):yk (nN (s.less tn la a) way a (way.length-1))/\qS s (nN (s.less tn la a) way a (way.length-1))/\(nN (s.less tn la a) way a (way.length-1)).R=s.R.set la (s.R.getD la 0-a):=by
 have ok:=F.ok;have W1:yz (s.less tn la a) way:=⟨W.nd,W.ed,W.lt⟩;have m:=Gr (rN ok tn la a) W1 a (way.length-1) (by omega);generalize nN (s.less tn la a) way a (way.length-1)=s' at m ⊢;have sb:qS s s':=⟨m.sm.ws,m.sm.fr,m.sm.M,m.sm.A⟩;have nt:=sb.net;have lo:=ok.lo;have lr:=ok.lr;have row:∀i,i<s.ws.length->s.net.rest s'.pf i=s.net.rest s.pf i-fG (i=la) a:=λi hi=>by
  have r:=m.row i hi;rw[hl,h0] at r;unfold eX.rest;rw[r];show s.A.getD i 0-(sm (s.pf i) 24+_-_)=s.A.getD i 0-sm (s.pf i) 24-_;unfold fG;rw[if_neg (show ¬s.ws.length+tn=i by omega)];by_cases c:i=la
  ·rw[if_pos c,if_pos c.symm];omega
  ·rw[if_neg c,if_neg (M5 c)];omega
 have col:∀t,t<24->s.net.room s'.pf t=s.net.room s.pf t-fG (t=tn) a:=λt h=>by
  have r:=m.col t h;rw[hl,h0] at r;unfold eX.room;show s.M*(s.fr.getD t 0:Nat)-sm (λi=>s'.pf i t) s.ws.length=s.M*(s.fr.getD t 0:Nat)-sm (λi=>s.pf i t) s.ws.length-_;have r':sm (λi=>s'.pf i t) s.ws.length=sm (λi=>s.pf i t) s.ws.length+fG (s.ws.length+tn=s.ws.length+t) a-fG (la=s.ws.length+t) a:=r;rw[r'];unfold fG;rw[if_neg (show ¬la=s.ws.length+t by omega)];by_cases c:t=tn
  ·rw[if_pos c,if_pos (by omega)];omega
  ·rw[if_neg c,if_neg (by omega)];omega
 have eR:s'.R=s.R.set la (s.R.getD la 0-a):=m.R;have eO:s'.O=s.O.set tn (s.O.getD tn 0-a):=m.O;have bnd:∀i t,i<s.ws.length->t<24->0≤s'.pf i t/\s'.pf i t≤s.M/\(gL (s.ws.getD i cC) t=false->s'.pf i t=0):=λi t hi h=>by
  have b0:0≤s.pf i t:=F.fl.lo i t hi h;have b1:s.pf i t≤s.M:=F.fl.hi i t hi h;have b2:gL (s.ws.getD i cC) t=false->s.pf i t=0:=F.fl.out i t hi h;rcases m.cell i t hi h with z | ⟨k,hk,z1,z2,z3⟩ | ⟨k,hk,z1,z2,z3⟩
  ·have z':s'.pf i t=s.pf i t:=z;rw[z'];exact⟨b0,b1,b2⟩
  ·have z2':way.getD k 0=s.ws.length+t:=z2;have z3':s'.pf i t=s.pf i t+a:=z3;have q:=am k (by omega);have e:=W.ed k (by omega);rw[z1,z2'] at q e;unfold wV at q;rw[if_pos hi,show s.ws.length+t-s.ws.length=t by omega] at q;obtain⟨t',_,e1,e2,_⟩:=(gt ok hi).mp e;obtain rfl:t=t':=by omega
   rw[z3'];refine⟨by omega,by omega,λz=>?_⟩;rw[z] at e2
   cases e2
  ·have z1':way.getD (k+1) 0=s.ws.length+t:=z1;have z3':s'.pf i t=s.pf i t-a:=z3;have q:=am k (by omega);rw[z1',z2] at q;unfold wV at q;rw[if_neg (by omega),show s.ws.length+t-s.ws.length=t by omega] at q;rw[z3'];refine⟨by omega,by omega,λz=>?_⟩;have:=b2 z;omega
 refine⟨⟨m.ok,?_,λi hi=>?_,λt h=>?_,λi hi=>?_⟩,sb,eR⟩
 ·rw[nt];refine⟨F.fl.m0,λi t hi h=>(bnd i t hi h).1,λi t hi h=>(bnd i t hi h).2.1,λi t hi h=>(bnd i t hi h).2.2,λi hi=>?_,λt h=>?_⟩
  ·rw[row i hi];have z:=F.fl.rs i hi;have rr:=F.rr i hi;unfold fG;by_cases c:i=la
   ·subst c;rw[if_pos Z];omega
   ·rw[if_neg c];omega
  ·rw[col t h];have z:=F.fl.rm t h;have oo:=F.oo t h;unfold fG;by_cases c:t=tn
   ·subst c;rw[if_pos Z];omega
   ·rw[if_neg c];omega
 ·rw[sb.ws] at hi;rw[nt,row i hi,eR,km (by omega)];have rr:=F.rr i hi;unfold fG;by_cases c:i=la
  ·subst c;rw[if_pos Z,if_pos Z];omega
  ·rw[if_neg c,if_neg c];omega
 ·rw[nt,col t h,eO,km (by omega)];have oo:=F.oo t h;unfold fG;by_cases c:t=tn
  ·subst c;rw[if_pos Z,if_pos Z];omega
  ·rw[if_neg c,if_neg c];omega
 ·rw[sb.ws] at hi;rw[sb.A];exact F.am i hi
def Ps.mu(s:Ps):Nat:=(sm (λi=>s.R.getD i 0) s.ws.length).toNat
theorem zQ{s s':Ps}(F:yk s)(hla:la<s.ws.length)(a0:0<a)(ar:a≤s.R.getD la 0)(e:s'.R=s.R.set la (s.R.getD la 0-a))(w:s'.ws=s.ws):s'.mu<s.mu:=by
 have lr:=F.ok.lr;unfold Ps.mu;rw[w,bg (f:=λi=>s'.R.getD i 0) (g:=λi=>s.R.getD i 0+if i=la then -a else 0) λi hi=>by
  rw[e,km (by omega)];by_cases c:i=la
  ·subst c;rw[if_pos Z,if_pos Z];omega
  ·rw[if_neg c,if_neg c];omega]
 rw[mI,if_pos hla];have h:=mJ (f:=λi=>s.R.getD i 0) (n:=s.ws.length) (i:=la) (λi hi=>by
  have r:=F.rr i hi;have z:=F.fl.rs i hi;show 0≤s.R.getD i 0;omega) hla
 have h':s.R.getD la 0≤sm (λi=>s.R.getD i 0) s.ws.length:=h;omega
theorem zS(h:0<way.length):pD (aF way) (-1)=some (.int ((way.getD (way.length-1) 0:Nat):Int)):=by
 have ne:way≠[]:=λz=>by rw[z] at h;exact absurd h (by decide)
 have e:=MZ ne;have e2:way.getLast ne=way.getD (way.length-1) 0:=by
  rw[List.getLast_eq_getElem,au 0 (J6 (by omega))]
 rw[←e2];have e3:aF way=aF way.dropLast++[V.int ((way.getLast ne:Nat):Int)]:=by
  rw[show aF way=aF (way.dropLast++[way.getLast ne]) by rw[e]];unfold aF;rw[Ku];rfl
 rw[e3];exact xY _ _
theorem me:∀{sl:Sl} {m v:Nat} {o:Option Nat},(sl.map (·.1)).Nodup->sl[m]?=some (v,o)->dX (b8 sl) (KN (v:Int))=some (oV o)
 | [],m,v,o,_,h=>nomatch h
 |x::r,0,v,o,_,h=>by
  have h':some x=some (v,o):=h;injection h' with h';subst h';exact dD (p:=((KN (v:Int):cv),oV o)) rfl
 |x::r,m+1,v,o,nd,h=>by
  have h':r[m]?=some (v,o):=h;rw[KH,Lo] at nd;have ne:x.1≠v:=λz=>nd.1 (z▸Kc.mpr ⟨_,Ke h',Z⟩)
  rw[show b8 (x::r)=(KN (x.1:Int),oV x.2)::b8 r from Z,dE (λz=>ne (by have:(KN (x.1:Int):cv)=KN (v:Int):=z;injection this with this;omega))];exact me nd.2 h'
theorem Bb{sl:Sl}(nd:(sl.map (·.1)).Nodup){i j v:Nat}(h1:sl[i]?=some (v,o))(h2:sl[j]?=some (v,o')):i=j:=by
 obtain⟨a,e1⟩:=Kg.mp h1;obtain⟨b,e2⟩:=Kg.mp h2;have:=(Na (i:=i) (j:=j) (h₀:=by rw[J7];exact a) (h₁:=by rw[J7];exact b) nd).mp (by rw[Nb,Nb,e1,e2]);exact this
theorem gk{α:Type}{l:List α}{x d:α}{j:Nat}(h:j<l.length):(l++[x]).getD j d=l.getD j d:=by
 rw[KQ,LC h,←KQ]
theorem fq{α:Type}{l:List α}{x d:α}:(l++[x]).getD l.length d=x:=by
 rw[KQ,N3 (Kb _),Nat.sub_self];rfl
theorem yz.more(W:yz s way)(l:0<way.length)(nu:u∉way)(e:way.getD (way.length-1) 0∈eg s u)(hu:u<s.ws.length+24):yz s (way++[u]):=by
 refine⟨?_,λj hj=>?_,λj hj=>?_⟩
 ·rw[No];exact⟨W.nd,Lo.mpr ⟨(λz=>nomatch z),Nz⟩,λa ha b hb z=>nu (by
   rw[←Ks.mp hb,←z];exact ha)⟩
 ·rw[Ko,Ld] at hj;by_cases c:j+1<way.length
  ·rw[gk (j:=j) (by omega),gk (j:=j+1) c];exact W.ed j c
  ·obtain rfl:j=way.length-1:=by omega
   rw[gk (j:=way.length-1) (by omega),show way.length-1+1=way.length by omega,fq];exact e
 ·rw[Ko,Ld] at hj;by_cases c:j<way.length
  ·rw[gk c];exact W.lt j c
  ·obtain rfl:j=way.length:=by omega
   rw[fq];exact hu
def Ag(s:Ps)(way:List Nat)(tn la n:Nat):List Int:=[s.O.getD tn 0,s.R.getD la 0]++(J9 n).map λj=>wV s (way.getD (j+1) 0) (way.getD j 0)
theorem Af(s:Ps)(way:List Nat)(tn la n:Nat):Ag s way tn la (n+1)=Ag s way tn la n++[wV s (way.getD (n+1) 0) (way.getD n 0)]:=by
 unfold Ag;rw[LU,Ku,Mt];rfl
theorem CO(ok:eC s)(hu:u<s.ws.length+24)(h:v∈eg s u):0<wV s u v:=by
 unfold wV;by_cases c:u<s.ws.length
 ·obtain⟨t,ht,rfl,_,z⟩:=(gt ok c).mp h;rw[if_pos c,show s.ws.length+t-s.ws.length=t by omega];omega
 ·obtain⟨t,rfl⟩:∃t,u=s.ws.length+t:=⟨u-s.ws.length,by omega⟩;rw[if_neg c,show s.ws.length+t-s.ws.length=t by omega];exact(iH.mp h).2
def fW(K:J5)(C:Addr):Sp:=λvs H Q _=>∃(p:iJ) (s:Ps) (d:Addr) (ns:List Nat) (sl:Sl) (tn:Nat),vs=[.ref p.a,.ref d,.int (tn:Nat)]/\fX K C H p s/\yk s/\Rd H d (.dK (b8 sl))/\jq s ns sl/\(∀v∈ns,v<s.ws.length/\0<s.R.getD v 0)/\s.ws.length+tn∈sl.map (·.1)/\0<s.O.getD tn 0/\∀s' H',kI p H H'->fX K C H' p s'->yk s'->qS s s'->s'.mu<s.mu->Q .non H'
theorem iM.congr(h:∀i,i<N.n->a i->b i)(r:iM N P a v):iM N P b v:=by
 induction r with
 |st hi x=>exact .st hi (h _ hi x)
 |fw r hi ht w p ih=>exact .fw ih hi ht w p
 |bw r ht hi p ih=>exact .bw ih ht hi p
def DC(s:Ps):List Nat:=(J9 s.ws.length).filter λi=>decide (0<s.R.getD i 0)
theorem iq:i∈DC s↔i<s.ws.length/\0<s.R.getD i 0:=by
 unfold DC;rw[Kl,Kk,decide_eq_true_iff]
structure uj(s:Ps)(sl:Sl):Prop where
 F:yk s
 key:∀v,v∈sl.map (·.1)↔iM s.net s.pf (λi=>0<s.net.rest s.pf i) v
 full:∀t,t<24->iM s.net s.pf (λi=>0<s.net.rest s.pf i) (s.ws.length+t)->s.net.room s.pf t=0
 nd:(sl.map (·.1)).Nodup
theorem zn{s:Ps}(F:yk s){sl:Sl}(S:jq s (DC s) sl)(C:Fg s sl sl.length)(no:∀t∈gN s.ws.length sl,¬0<s.O.getD t 0):uj s sl:=by
 have key:∀v,v∈sl.map (·.1)↔iM s.net s.pf (λi=>0<s.net.rest s.pf i) v:=λv=>by
  rw[yI F.ok S C λv hv=>(iq.mp hv).1];constructor
  ·exact iM.congr λi hi h=>by rw[←F.rr i hi];exact(iq.mp h).2
  ·exact iM.congr λi hi h=>iq.mpr ⟨hi,by rw[F.rr i hi];exact h⟩
 refine⟨F,key,λt ht r=>?_,S.nd⟩;have q:=no t (ke.mpr ((key _).mpr r));have z:=F.fl.rm t ht;have o:=F.oo t ht;omega
def gW(WS:List Wk)(L:List Nat):List Wk:=L.map λj=>WS.getD j cC
def fI(ws:List Wk):Rat:=(ws.map λw=>val w.2.2).sum
theorem jN(a b:List Rat):(a++b).sum=a.sum+b.sum:=by
 induction a with
 |nil=>rw[O0,O9];grind
 |cons x r ih=>rw[Qf,Mo,Mo,ih];grind
theorem rD{S:Nat->Bool}{f:Nat->Int}{g:Nat->Rat}{c:Rat}:∀{n:Nat},(∀i,i<n->(f i:Rat)=c*g i)->((sm (λi=>iB (S i) (f i)) n:Int):Rat)=c*(((J9 n).filter S).map g).sum
 |0,_=>by
  show((0:Int):Rat)=c*0;rw[Pa];rfl
 |n+1,h=>by
  have ih:=rD (S:=S) (n:=n) λi hi=>h i (by omega)
  have e:=h n (by omega);show((sm _ n+iB (S n) (f n):Int):Rat)=_;rw[Oi,ih,LU,Lv,Ku,jN,PJ]
  cases c1:S n with
  |true=>
   rw[Lc c1,Mh,KH,OE,Mo,O9,xo,e];grind
  |false=>
   rw[K4 (by rw[c1];exact Kj),Mh,OE,O9,qA,Pa];rfl
theorem j8{S p:Nat->Bool}:∀n:Nat,sm (λi=>iB (S i&&p i) 1) n=((((J9 n).filter S).filter p).length:Nat)
 |0=>rfl
 |n+1=>by
  show sm _ n+iB (S n&&p n) 1=_;rw[j8 n,LU,Lv,Lv,Ko]
  cases c1:S n with
  |true=>
   rw[Lc c1,Mh]
   cases c2:p n with
   |true=>
    rw[Lc c2];show _+(1:Int)=((_+1:Nat):Int);omega
   |false=>
    rw[K4 (by rw[c2];exact Kj)];show _+(0:Int)=((_+0:Nat):Int);omega
  |false=>
   rw[K4 (by rw[c1];exact Kj)];show _+(0:Int)=((_+0:Nat):Int);omega
theorem lg(f:Nat->Nat):∀n:Nat,((((J9 n).map f).sum:Nat):Int)=sm (λt=>((f t:Nat):Int)) n
 |0=>rfl
 |n+1=>by
  show _=sm _ n+((f n:Nat):Int);rw[LU,Ku,List.sum_append,←lg f n];show((_+(f n+0):Nat):Int)=_;omega
theorem fH(h:fr.length=24):((bP ws fr:Nat):Int)=sm (λt=>((min (fr.getD t 0) (ca ws t):Nat):Int)) 24:=by
 unfold bP dJ;rw[lg,h]
theorem xV(ws:List Wk)(S:Nat->Bool)(n t:Nat):((ca (gW ws ((J9 n).filter S)) t:Nat):Int)=sm (λi=>iB (S i&&gL (ws.getD i cC) t) 1) n:=by
 rw[j8 (p:=λi=>gL (ws.getD i cC) t)];unfold ca gW;rw[Oj,J7];rfl
section
variable {s:Ps}
theorem CK(ok:eC s)(S:Nat->Bool):s.net.bz S=((bP (gW s.ws ((J9 s.ws.length).filter S)) s.fr:Nat):Int):=by
 rw[fH ok.f24];unfold eX.bz;refine bg λt _=>?_
 have e:s.net.cnt S t=((ca (gW s.ws ((J9 s.ws.length).filter S)) t:Nat):Int):=(xV ..).symm;unfold eX.busy;rw[e];show min ((s.fr.getD t 0:Nat):Int) _=_;omega
structure Ds(s:Ps)(r:R)(B:Int):Prop where
 b0:0<B
 M:(s.M:Rat)=(B:Rat)*val r
 A:∀i,i<s.ws.length->((s.A.getD i 0:Int):Rat)=(B:Rat)*val (s.ws.getD i cC).2.2
theorem wN(L:Ds s r B)(S:Nat->Bool):((s.net.am S:Int):Rat)=(B:Rat)*fI (gW s.ws ((J9 s.ws.length).filter S)):=by
 have q:=rD (S:=S) (f:=λi=>s.A.getD i 0) (g:=λi=>val (s.ws.getD i cC).2.2) (n:=s.ws.length) L.A;unfold fI gW;rw[KY];exact q
theorem Ho(ok:eC s)(L:Ds s r B)(S:Nat->Bool):((s.M*s.net.bz S:Int):Rat)=(B:Rat)*(val r*((bP (gW s.ws ((J9 s.ws.length).filter S)) s.fr:Nat):Rat)):=by
 rw[KL,CK ok S,L.M,Mu];grind
theorem gM{B:Int}(h:0<B):(0:Rat)<(B:Rat):=by
 have:=L7.mpr h;exact this
theorem hU{B x y:Rat}(h:0<B):B*x<B*y↔x<y:=by
 constructor
 ·intro z;apply KC;intro n;have:=LP (Oq.mp n) (M7 h);grind
 ·intro z;have:=Lx z h;grind
theorem kd{B x y:Rat}(h:0<B):B*x≤B*y↔x≤y:=by
 constructor
 ·intro z;apply KC;intro n;have:=(hU h).mpr (ON.mp n);grind
 ·intro z;exact LP z (M7 h)
end
structure kU(WS:List Wk)(ns fr:List Nat)(r:R)(U:Nat->Bool):Prop where
 rd:eh r
 nn:0≤val r
 atn:∃S:Nat->Bool,0<bP (gW WS (ns.filter S)) fr/\fI (gW WS (ns.filter S))=val r*((bP (gW WS (ns.filter S)) fr:Nat):Rat)
 all:∀S:Nat->Bool,fI (gW WS (ns.filter S))≤val r*((bP (gW WS (ns.filter S)) fr:Nat):Rat)
 u:∀j∈ns,U j=true↔∃S:Nat->Bool,S j=true/\fI (gW WS (ns.filter S))=val r*((bP (gW WS (ns.filter S)) fr:Nat):Rat)
section
variable {s:Ps}
theorem ql{sl:Sl}(E:uj s sl)(L:Ds s r B)(ne:sl≠[]):val r*((bP (gW s.ws ((J9 s.ws.length).filter λi=>decide (i∈sl.map (·.1)))) s.fr:Nat):Rat)<fI (gW s.ws ((J9 s.ws.length).filter λi=>decide (i∈sl.map (·.1)))):=by
 obtain⟨i,hi,h⟩:∃i,i<s.ws.length/\0<s.net.rest s.pf i:=by
  cases sl with
  |nil=>exact absurd Z ne
  |cons x t=>
   have rr:=(E.key x.1).mp Kf;have:∀v,iM s.net s.pf (λi=>0<s.net.rest s.pf i) v->∃i,i<s.ws.length/\0<s.net.rest s.pf i:=λv z=>by
    induction z with
    |st hi h=>exact⟨_,hi,h⟩
    |fw _ _ _ _ _ ih=>exact ih
    |bw _ _ _ _ ih=>exact ih
   exact this _ rr
 have q:=Ea E.F.fl E.full hi h;have e:(J9 s.ws.length).filter (λi=>decide (i∈sl.map (·.1)))=(J9 s.ws.length).filter (wR s.net s.pf λi=>0<s.net.rest s.pf i):=by
  refine MT λi _=>?_
  unfold wR;rw[L1,decide_eq_true_iff,nF];exact E.key i
 rw[e,←hU (gM L.b0),←wN L,←Ho E.F.ok L];exact L7.mpr q
theorem lD{sl:Sl}(E:uj s sl)(e:sl=[]):∀i,i<s.ws.length->s.net.rest s.pf i=0:=λi hi=>by
 have nn:=E.F.fl.rs i hi;apply KC;intro z;have:=(E.key i).mpr (.st hi (by omega));rw[e] at this
 cases this
end
section
variable {WS:List Wk}{S T:Nat->Bool}{ns fr:List Nat}
theorem gG(j:Nat)(r:List Nat)(S:Nat->Bool):fI (gW WS ((j::r).filter S))=(if S j=true then val (WS.getD j cC).2.2 else 0)+fI (gW WS (r.filter S)):=by
 cases c:S j with
 |true=>
  rw[Lc c,if_pos Z];exact Mo
 |false=>
  rw[K4 (by rw[c];exact Kj),if_neg Kj];grind
theorem iD(j:Nat)(r:List Nat)(S:Nat->Bool)(t:Nat):ca (gW WS ((j::r).filter S)) t=(if(S j&&gL (WS.getD j cC) t)=true then 1 else 0)+ca (gW WS (r.filter S)) t:=by
 cases c:S j with
 |true=>
  rw[Lc c];show((WS.getD j cC::gW WS (r.filter S)).filter λw=>gL w t).length=_
  cases d:gL (WS.getD j cC) t with
  |true=>
   rw[Lc (p:=λw=>gL w t) d,Lb,NT,if_pos Z];show ca _ t+1=_;omega
  |false=>
   rw[K4 (p:=λw=>gL w t) (by show ¬gL _ t=true;rw[d];exact Kj),if_neg (by decide)];show ca _ t=_;omega
 |false=>
  rw[K4 (by rw[c];exact Kj),NY,if_neg Kj];omega
theorem m8(S T:Nat->Bool):∀ns:List Nat,fI (gW WS (ns.filter λj=>S j||T j))+fI (gW WS (ns.filter λj=>S j&&T j))=fI (gW WS (ns.filter S))+fI (gW WS (ns.filter T))
 | []=>rfl
 |j::r=>by
  have ih:=m8 S T r;rw[gG,gG,gG,gG]
  cases S j<;>cases T j<;>simp only[R9,Rj,NT,N7,Lf,if_true,if_false]<;>grind
theorem jB(S T:Nat->Bool)(t:Nat):∀ns:List Nat,ca (gW WS (ns.filter λj=>S j||T j)) t+ca (gW WS (ns.filter λj=>S j&&T j)) t=ca (gW WS (ns.filter S)) t+ca (gW WS (ns.filter T)) t/\ca (gW WS (ns.filter S)) t≤ca (gW WS (ns.filter λj=>S j||T j)) t/\ca (gW WS (ns.filter T)) t≤ca (gW WS (ns.filter λj=>S j||T j)) t
 | []=>⟨Z,Kb _,Kb _⟩
 |j::r=>by
  obtain⟨a,b,c⟩:=jB S T t r;rw[iD,iD,iD,iD]
  cases S j<;>cases T j<;>cases gL (WS.getD j cC) t<;>simp only[R9,Rj,NT,N7,Lf,if_true,if_false]<;>omega
theorem A6(h:fr.length=24)(S T:Nat->Bool):bP (gW WS (ns.filter λj=>S j||T j)) fr+bP (gW WS (ns.filter λj=>S j&&T j)) fr≤bP (gW WS (ns.filter S)) fr+bP (gW WS (ns.filter T)) fr:=by
 have e1:=fH (ws:=gW WS (ns.filter λj=>S j||T j)) h;have e2:=fH (ws:=gW WS (ns.filter λj=>S j&&T j)) h;have e3:=fH (ws:=gW WS (ns.filter S)) h;have e4:=fH (ws:=gW WS (ns.filter T)) h;have l:=gO (f:=λt=>((min (fr.getD t 0) (ca (gW WS (ns.filter λj=>S j||T j)) t):Nat):Int)+((min (fr.getD t 0) (ca (gW WS (ns.filter λj=>S j&&T j)) t):Nat):Int)) (g:=λt=>((min (fr.getD t 0) (ca (gW WS (ns.filter S)) t):Nat):Int)+((min (fr.getD t 0) (ca (gW WS (ns.filter T)) t):Nat):Int)) (n:=24) λt _=>by
  obtain⟨a,b,c⟩:=jB (WS:=WS) S T t ns;omega
 rw[f8,f8] at l;omega
theorem Fa(h:∀j∈ns,0<val (WS.getD j cC).2.2)(S:Nat->Bool):0≤fI (gW WS (ns.filter S)):=by
 induction ns with
 |nil=>exact MR
 |cons j r ih=>
  rw[gG];have a:=h j Kf;have b:=ih λj hj=>h j (Km _ hj)
  cases S j<;>simp only[Lf,if_true,if_false]<;>grind
theorem qL(h:∀j∈ns,0<val (WS.getD j cC).2.2)(hj:j∈ns)(hS:S j=true):0<fI (gW WS (ns.filter S)):=by
 induction ns with
 |nil=>cases hj
 |cons i r ih=>
  rw[gG];have a:=h i Kf;have b:=Fa (λj hj=>h j (Km _ hj)) S;rcases Kn.mp hj with z|z
  ·subst z;rw[if_pos hS];grind
  ·have c:=ih (λj hj=>h j (Km _ hj)) z
   cases S i<;>simp only[Lf,if_true,if_false]<;>grind
theorem jH(h:∀j∈ns,S j=false):ns.filter S=[]:=L8.mpr λj hj z=>by rw[h j hj] at z;cases z
theorem nH(h:fr.length=24):bP [] fr=0:=by
 have e:=fH (ws:=[]) h;rw[bg (g:=λ_=>0) (λt _=>by show((min _ 0:Nat):Int)=0;omega),fb] at e;omega
theorem uv(h:fr.length=24)(nn:0≤v)(all:∀S:Nat->Bool,fI (gW WS (ns.filter S))≤v*((bP (gW WS (ns.filter S)) fr:Nat):Rat))(a:fI (gW WS (ns.filter S))=v*((bP (gW WS (ns.filter S)) fr:Nat):Rat))(b:fI (gW WS (ns.filter T))=v*((bP (gW WS (ns.filter T)) fr:Nat):Rat)):fI (gW WS (ns.filter λj=>S j||T j))=v*((bP (gW WS (ns.filter λj=>S j||T j)) fr:Nat):Rat):=by
 have m:=m8 (WS:=WS) S T ns;have s:=NH.mpr (A6 (WS:=WS) (ns:=ns) h S T);rw[Qy,Qy] at s;have l:=LP s nn;rw[PJ,PJ] at l;have x:=all λj=>S j||T j
 have y:=all λj=>S j&&T j
 refine O1 x ?_;grind
theorem kU.tight(F:kU WS ns fr r U)(h:fr.length=24):fI (gW WS (ns.filter U))=val r*((bP (gW WS (ns.filter U)) fr:Nat):Rat):=by
 have key:∀l:List Nat,(∀j∈l,j∈ns)->∃S:Nat->Bool,fI (gW WS (ns.filter S))=val r*((bP (gW WS (ns.filter S)) fr:Nat):Rat)/\(∀j∈l,U j=true->S j=true)/\∀j∈ns,S j=true->U j=true:=λl=>by
  induction l with
  |nil=>
   intro _;refine⟨λ_=>false,?_,(λj hj=>by cases hj),λj _ z=>by cases z⟩;rw[jH λ_ _=>Z];show(0:Rat)=_*((bP [] fr:Nat):Rat);rw[nH h];exact(Pa _).symm
  |cons i l ih=>
   intro hl;obtain⟨S,t,a,b⟩:=ih λj hj=>hl j (Km _ hj)
   by_cases c:U i=true
   ·obtain⟨T,ti,et⟩:=(F.u i (hl i Kf)).mp c;refine⟨λj=>S j||T j,uv h F.nn F.all t et,λj hj hu=>?_,λj hj z=>?_⟩
    ·rcases Kn.mp hj with z|z
     ·subst z;show(S j||T j)=true;rw[ti,R9]
     ·show(S j||T j)=true;rw[a j z hu,Bool.true_or]
    ·rcases Bool.or_eq_true_iff.mp z with z|z
     ·exact b j hj z
     ·exact(F.u j hj).mpr ⟨T,z,et⟩
   ·exact⟨S,t,λj hj hu=>by
     rcases Kn.mp hj with z|z
     ·subst z;exact absurd hu c
     ·exact a j z hu,b⟩
 obtain⟨S,t,a,b⟩:=key ns λ_ h=>h
 have e:ns.filter U=ns.filter S:=MT λj hj=>by
  rw[L1];exact⟨a j hj,b j hj⟩
 rw[e];exact t
def ym(WS:List Wk)(ns fr:List Nat):Prop:=∀j∈ns,∃t,t<24/\gL (WS.getD j cC) t=true/\0<fr.getD t 0
theorem Ab(hj:j∈ns)(hS:S j=true)(hw:gL (WS.getD j cC) t=true):0<ca (gW WS (ns.filter S)) t:=by
 unfold ca;exact List.length_pos_of_mem (Kl.mpr ⟨Kc.mpr ⟨j,Kl.mpr ⟨hj,hS⟩,Z⟩,hw⟩)
theorem v4(h:fr.length=24)(P:ym WS ns fr)(hj:j∈ns)(hS:S j=true):0<bP (gW WS (ns.filter S)) fr:=by
 obtain⟨t,ht,hw,hf⟩:=P j hj;have e:=fH (ws:=gW WS (ns.filter S)) h;have c:=Ab (WS:=WS) hj hS hw;have m:=mJ (f:=λt=>((min (fr.getD t 0) (ca (gW WS (ns.filter S)) t):Nat):Int)) (n:=24) (i:=t) (λ_ _=>Ry _) ht;have m':((min (fr.getD t 0) (ca (gW WS (ns.filter S)) t):Nat):Int)≤sm (λt=>((min (fr.getD t 0) (ca (gW WS (ns.filter S)) t):Nat):Int)) 24:=m;omega
def nE(fr:List Nat)(ws:List Wk):List Nat:=(J9 24).map λt=>fr.getD t 0-min (fr.getD t 0) (ca ws t)
theorem qD(ht:t<24):(nE fr ws).getD t 0=fr.getD t 0-min (fr.getD t 0) (ca ws t):=au 0 (by unfold nE;rw[Kt,Mb ht];rfl)
theorem jD:(nE fr ws).length=24:=by unfold nE;rw[J7,KB]
theorem kU.next(F:kU WS ns fr r U)(h:fr.length=24)(am:∀j∈ns,0<val (WS.getD j cC).2.2):ym WS (ns.filter λj=>!U j) (nE fr (gW WS (ns.filter U))):=λj hj=>by
 obtain⟨hj,hu⟩:=Kl.mp hj;have hu:U j=false:=by cases c:U j with|true=>rw[c] at hu;cases hu|false=>rfl
 apply KC;intro no;have cap:∀t,t<24->gL (WS.getD j cC) t=true->fr.getD t 0≤ca (gW WS (ns.filter U)) t:=λt ht hw=>by
  apply KC;intro z;exact no ⟨t,ht,hw,by rw[qD ht];omega⟩
 have le:bP (gW WS (ns.filter λi=>U i||(i==j))) fr≤bP (gW WS (ns.filter U)) fr:=by
  have e1:=fH (ws:=gW WS (ns.filter λi=>U i||(i==j))) h;have e2:=fH (ws:=gW WS (ns.filter U)) h;have l:=gO (f:=λt=>((min (fr.getD t 0) (ca (gW WS (ns.filter λi=>U i||(i==j))) t):Nat):Int)) (g:=λt=>((min (fr.getD t 0) (ca (gW WS (ns.filter U)) t):Nat):Int)) (n:=24) λt ht=>by
   obtain⟨a,b,c⟩:=jB (WS:=WS) U (λi=>i==j) t ns;by_cases hw:gL (WS.getD j cC) t=true
   ·have:=cap t ht hw;omega
   ·have z:ca (gW WS (ns.filter λi=>i==j)) t=0:=by
     unfold ca;rw[LL,L8];intro w hm q;obtain⟨i,hi,rfl⟩:=Kc.mp hm;have:=Sm (Kl.mp hi).2;subst this;exact hw q
    omega
  omega
 have m:=m8 (WS:=WS) U (λi=>i==j) ns;rw[jH (S:=λi=>U i&&(i==j)) (λi _=>by
  by_cases c:i=j
  ·rw[c,hu];rfl
  ·rw[beq_eq_false_iff_ne.mpr c,N7])] at m
 have p:=qL (S:=λi=>i==j) am hj (beq_self_eq_true j);have t:=F.tight h;have a:=F.all λi=>U i||(i==j)
 have l:=LP (NH.mpr le) F.nn;have z:fI (gW WS [])=0:=Z;grind
theorem kU.some(F:kU WS ns fr r U)(h:fr.length=24):∃j∈ns,U j=true:=by
 obtain⟨S,b,e⟩:=F.atn
 cases q:ns.filter S with
 |nil=>
  rw[q] at b;have:bP (gW WS []) fr=0:=nH h;omega
 |cons j t=>
  have m:=Kl.mp (show j∈ns.filter S by rw[q];exact Kf);exact⟨j,m.1,(F.u j m.1).mpr ⟨S,m.2,e⟩⟩
theorem kU.uniq(F:kU WS ns fr r U)(F':kU WS ns fr r' U'):r=r'/\∀j∈ns,U j=U' j:=by
 have le:∀{r r':R} {U U':Nat->Bool},kU WS ns fr r U->kU WS ns fr r' U'->val r≤val r':=λ{r r' U U'} F F'=>by
  obtain⟨S,b,e⟩:=F.atn;have a:=F'.all S;rw[e] at a;have b':(0:Rat)<((bP (gW WS (ns.filter S)) fr:Nat):Rat):=M0.mpr b;apply KC;intro z;have:=Lx (ON.mp z) b';grind
 have e:r=r':=dr F.rd F'.rd (O1 (le F F') (le F' F));subst e;refine⟨Z,λj hj=>?_⟩;rw[L1,F.u j hj,F'.u j hj]
end
inductive yj(WS:List Wk)(f:Nat->R):List Nat->List Nat->Prop where
 |nil {fr:List Nat}:yj WS f [] fr
 |step {ns fr:List Nat} {r:R} {U:Nat->Bool} (F:kU WS ns fr r U) (h:∀j∈ns,U j=true->f j=r) (n:yj WS f (ns.filter λj=>!U j) (nE fr (gW WS (ns.filter U)))):yj WS f ns fr
def uk(w:Wk):Prop:=w.1≤w.2.1/\w.2.1<24/\Bq 84 12 w.2.2/\0<w.2.2.1
structure yg(ws:List Wk):Prop where
 len:ws.length≤6
 gd:∀w∈ws,uk w
def DA:List Int:=Ki 24 0
def dQ(B:Int)(r:R):Int:=r.1*(B/r.2)
def yw(ws:List Wk)(fr:List Nat)(B:Int)(r:R):Ps:=⟨ws,fr,dQ B r,ws.map λw=>dQ B w.2.2,ws.map λw=>dQ B w.2.2,fr.map λf:Nat=>dQ B r*(f:Int),Ki ws.length DA⟩
theorem wQ(p:0<r.2)(d:r.2∣B):((dQ B r:Int):Rat)=(B:Rat)*val r:=by
 obtain⟨q,rfl⟩:=d;unfold dQ;rw[KS _ (by omega),KL,KL];have:=cw p;unfold val;generalize (r.1:Rat)=x at *;generalize (r.2:Rat)=y at *;grind
theorem wS(p:0<r.2)(d:r.2∣B)(b:0<B)(t:0<r.1):0<dQ B r:=LJ t (Nc b (Lw p) d)
section
variable {ws:List Wk}{fr:List Nat}{B:Int}{r:R}
theorem j5(i t:Nat):(yw ws fr B r).pf i t=0:=by
 unfold Ps.pf yw DA;show((Ki ws.length (Ki 24 (0:Int))).getD i []).getD t 0=0;rw[KQ (l:=Ki ws.length _),Mj];by_cases c:i<ws.length
 ·rw[if_pos c];show(Ki 24 (0:Int)).getD t 0=0;rw[KQ,Mj]
  split<;>rfl
 ·rw[if_neg c];rfl
theorem v3(h:i<ws.length):(ws.map λw=>dQ B w.2.2).getD i 0=dQ B (ws.getD i cC).2.2:=by
 rw[au cC (J6 h)];exact au 0 (by rw[Kt,J6 h];rfl)
theorem eZ(h:i<ws.length):ws.getD i cC∈ws:=by
 rw[au cC (J6 h)];exact K6 h
theorem BZ(g:yg ws)(f:fr.length=24):eC (yw ws fr B r):=by
 have l:=g.len;refine⟨by show ws.length≤20;omega,f,λw hw=>⟨(g.gd w hw).1,(g.gd w hw).2.1⟩,J7 _,J7 _,(J7 _).trans f,LW,λq hq=>?_⟩;rw[(Os.mp hq).2];rfl
theorem Er(g:yg ws)(f:fr.length=24)(b0:0<B)(p:0<r.2)(d:r.2∣B)(t0:0<r.1)(dw:∀w∈ws,w.2.2.2∣B):yk (yw ws fr B r)/\Ds (yw ws fr B r) r B:=by
 have m0:=wS p d b0 t0;have a0:∀i,i<ws.length->0<(ws.map λw=>dQ B w.2.2).getD i 0:=λi hi=>by
  rw[v3 hi];have m:=eZ hi;have gg:=g.gd _ m;exact wS gg.2.2.1.pos (dw _ m) b0 gg.2.2.2
 have rest:∀i,(yw ws fr B r).net.rest (yw ws fr B r).pf i=(ws.map λw=>dQ B w.2.2).getD i 0:=λi=>by
  unfold eX.rest;rw[bg (g:=λ_=>0) (λt _=>j5 i t),fb];exact R7 _
 have room:∀t,(yw ws fr B r).net.room (yw ws fr B r).pf t=dQ B r*((fr.getD t 0:Nat):Int):=λt=>by
  unfold eX.room;rw[bg (g:=λ_=>0) (λi _=>j5 i t),fb];exact R7 _
 refine⟨⟨BZ g f,⟨Lw m0,λi t _ _=>?_,λi t _ _=>?_,λi t _ _ _=>j5 i t,λi hi=>?_,λt _=>?_⟩,λi hi=>(rest i).symm,λt ht=>?_,a0⟩,⟨b0,wQ p d,λi hi=>?_⟩⟩
 ·rw[j5];exact N6 _
 ·rw[j5];exact Lw m0
 ·rw[rest];exact Lw (a0 i hi)
 ·rw[room];exact Int.mul_nonneg (Lw m0) (Ry _)
 ·rw[room];exact au 0 (by
   show(fr.map λf:Nat=>dQ B r*(f:Int))[t]?=_;rw[Kt,J6 (by omega:t<fr.length),au 0 (J6 (by omega:t<fr.length))];rfl)
 ·have hi:i<ws.length:=hi;show(((ws.map λw=>dQ B w.2.2).getD i 0:Int):Rat)=(B:Rat)*val (ws.getD i cC).2.2;rw[v3 hi];have m:=eZ hi;exact wQ (g.gd _ m).2.2.1.pos (dw _ m)
end
theorem none_of{H H':Hp}{q:Addr}(k:∀o,H q=some o->H' q=some o)(h:H' q=none):H q=none:=by
 cases c:H q with
 |none=>rfl
 |some o=>rw[k o c] at h;cases h
theorem dC:∀{rs:List R},(∀r∈rs,eh r)->∀{a:R},eh a->eh (rs.foldl bj a)/\val (rs.foldl bj a)=val a+(rs.map val).sum
 | [],_,a,ha=>⟨ha,by show val a=val a+0;grind⟩
 |r::rs,h,a,ha=>by
  have hr:=h r Kf;obtain⟨x,y⟩:=dC (λq hq=>h q (Km _ hq)) (oB ha hr);refine⟨x,?_⟩;rw[NO,y,fY ha.pos hr.pos,KH,Mo];grind
theorem dA:eh ((0,1):R):=⟨by decide,by decide⟩
theorem xZ(h:∀w∈ws,eh w.2.2):eh (cN (ws.map λw=>w.2.2))/\val (cN (ws.map λw=>w.2.2))=fI ws:=by
 obtain⟨x,y⟩:=dC (rs:=ws.map λw=>w.2.2) (λr hr=>by obtain⟨w,hw,rfl⟩:=Kc.mp hr;exact h w hw) dA;refine⟨x,?_⟩;have e:val ((0,1):R)=0:=(bX (r:=(0,1)) (by decide)).mpr Z;rw[e,KY] at y;show val ((ws.map λw=>w.2.2).foldl bj (0,1))=_;rw[y];show 0+fI ws=fI ws;grind
theorem xW(f:fr.length=24)(h:ws.length≤6):bP ws fr≤144:=by
 have e:=fH (ws:=ws) f;have l:=gO (f:=λt=>((min (fr.getD t 0) (ca ws t):Nat):Int)) (g:=λ_=>6) (n:=24) λt _=>by
  have:ca ws t≤ws.length:=Lm _ _;omega
 have z:sm (λ_=>6) 24=144:=by decide
 omega
theorem rH(f:fr.length=24)(g:∀w∈ws,uk w)(l:ws.length≤6)(b:0<bP ws fr)(ne:ws≠[]):Bq (84*bP ws fr) 72 (cq ws fr)/\0<(cq ws fr).1/\val (cq ws fr)*((bP ws fr:Nat):Rat)=fI ws:=by
 have sq:=(gu (D:=84) (N:=12) (by decide) (rs:=ws.map λw=>w.2.2) λr hr=>by obtain⟨w,hw,rfl⟩:=Kc.mp hr;exact(g w hw).2.2.1).mono (MN _) (show 12*(ws.map λw=>w.2.2).length≤72 by rw[J7];omega);have oq:Bq (bP ws fr) 1 ((1,(bP ws fr:Int)):R):=⟨by show(0:Int)<bP ws fr;omega,by show KA 1 _=1;exact Int.one_gcd,Int.dvd_refl _,by show 1≤1*((bP ws fr:Nat):Int).natAbs;omega⟩;obtain⟨rd,ev⟩:=xZ (ws:=ws) λw hw=>(g w hw).2.2.1.red
 have q:=sq.times oq;have p:val (cq ws fr)*((bP ws fr:Nat):Rat)=fI ws:=by
  unfold cq;rw[eD rd.pos oq.pos,ev];have e1:val ((1,(bP ws fr:Int)):R)=1/((bP ws fr:Nat):Rat):=by
   unfold val;show((1:Int):Rat)/(((bP ws fr:Nat):Int):Rat)=_;rw[Mu];rfl
  have e2:((bP ws fr:Nat):Rat)≠0:=λz=>by
   have:(0:Rat)<((bP ws fr:Nat):Rat):=M0.mpr b;grind
  rw[e1];generalize ((bP ws fr:Nat):Rat)=y at *;grind
 refine⟨q,?_,p⟩;have ap:0<fI ws:=by
  have h:=qL (WS:=ws) (ns:=J9 ws.length) (S:=λ_=>true) (j:=0) (λj hj=>by
   have m:=eZ (Kk.mp hj);have gg:=g _ m;apply KC;intro z;have v0:val (ws.getD j cC).2.2≤0:=Oq.mp z;have:0<val (ws.getD j cC).2.2:=by
    have x1:(0:Rat)<(((ws.getD j cC).2.2.1:Int):Rat):=gM gg.2.2.2;have x2:(0:Rat)<(((ws.getD j cC).2.2.2:Int):Rat):=gM gg.2.2.1.pos;unfold val;rw[Pt x2];rw[OG];exact x1
   grind) (Kk.mpr (Mv.mpr ne)) Z
  rw[show gW ws ((J9 ws.length).filter λ_=>true)=ws by
   have e:=cP cC (λw:Wk=>w) ws;rw[List.map_id' ] at e;exact e] at h
  exact h
 apply KC;intro z;have nb:(0:Rat)<((bP ws fr:Nat):Rat):=M0.mpr b;have vle:val (cq ws fr)≤0:=by
  apply KC;intro w;have w:=ON.mp w;have x2:(0:Rat)<(((cq ws fr).2:Int):Rat):=gM q.pos;unfold val at w;rw[Pt x2,OG] at w;have w':((0:Int):Rat)<(((cq ws fr).1:Int):Rat):=w;exact z (L7.mp w')
 have:=MD vle (M7 nb);grind
def dU(ns:List Nat):List (List Nat):=ns.foldl (λf j=>f++f.map (·++[j])) [[]]
theorem gx(ns:List Nat)(j:Nat):dU (ns++[j])=dU ns++(dU ns).map (·++[j]):=by
 unfold dU;rw[NV];rfl
theorem dH:∀{n:Nat} {ns L:List Nat},ns.length=n->(L∈dU ns↔L.Sublist ns)
 |0,ns,L,h=>by
  rw[LL.mp h];show L∈[[]]↔_;rw[Ks,Qg]
 |n+1,ns,L,h=>by
  have ne:ns≠[]:=λz=>by rw[z] at h;cases h
  obtain⟨a,j,rfl⟩:∃a j,ns=a++[j]:=⟨ns.dropLast,ns.getLast ne,(MZ ne).symm⟩;rw[Ko,Ld] at h;rw[gx,KG,Kc,List.sublist_append_iff];constructor
  ·rintro (z | ⟨M,hM,rfl⟩)
   ·exact⟨L,[],(LF L).symm,(dH (n:=n) (by omega)).mp z,List.nil_sublist _⟩
   ·exact⟨M,[j],Z,(dH (n:=n) (by omega)).mp hM,List.Sublist.refl _⟩
  ·rintro⟨a',b',rfl,h1,h2⟩
   cases h2 with
   |cons _ h2=>
    rw[Qg.mp h2,LF];exact .inl ((dH (n:=n) (by omega)).mpr h1)
   |cons_cons _ h2=>
    rw[Qg.mp h2];exact .inr ⟨a',(dH (n:=n) (by omega)).mpr h1,Z⟩
def pq(ws:List Wk)(fr:List Nat)(L:List Nat):Rat:=fI (gW ws L)/((bP (gW ws L) fr:Nat):Rat)
def JP(ws:List Wk)(fr:List Nat)(x:Rat):Nat:=((dU (J9 ws.length)).filter λL=>decide (x<pq ws fr L)).length
theorem C0(ws:List Wk):gW ws (J9 ws.length)=ws:=by
 have e:=cP cC (λw:Wk=>w) ws;rw[List.map_id',M3.mpr (by intros;rfl)] at e;exact e
theorem AN{B:Int}{r:R}{D:Nat}(b0:0<B)(bd:B∣(D:Int))(d0:0<D)(d:D<2^60)(r2:0<r.2)(t:r.1.natAbs<2^60):(dQ B r).natAbs<2^200:=by
 have h1:=Nu (by omega) bd;have h2:=OO r.2 (Lw b0);have h3:=Og (Lw b0) (Lw r2);have h4:(B/r.2).natAbs<2^60:=by omega
 exact N8 (hV t h4) (by decide)
section
variable {WS:List Wk}{ns fr:List Nat}
end
theorem qC(g:uk w):0<val w.2.2:=by
 have x1:(0:Rat)<((w.2.2.1:Int):Rat):=gM g.2.2.2;have x2:(0:Rat)<((w.2.2.2:Int):Rat):=gM g.2.2.1.pos;unfold val;rw[Pt x2,OG];exact x1
def JY(K:J5)(H:Hp)(v:V)(r:R):Prop:=∃p y z,v=.ref p/\bH K H p [y,z]/\RV K H y r
def yo(H H':Hp):Prop:=∀b o,(∀k,o≠HO.dK k)->H b=some o->H' b=some o
section
variable {K:J5}{C:Addr}{H H' H2:Hp}{p:iJ}{s:Ps}
theorem yo.up(e:H d=some (.dK k))(k':List (cv×V)):yo H (av H d (.dK k')):=λb o n h=>by
 have nb:b≠d:=λz=>by
  rw[z,e] at h;injection h with h;exact n k h.symm
 rw[ak nb];exact h
theorem yo.tst(z:yo H H'):aT K H H':=λb xs h=>by
 rcases h with(g | ⟨o,g⟩)|g
 ·exact .inl (.inl (z _ _ (λk q=>by cases q) g))
 ·exact .inl (.inr ⟨o,z _ _ (λk q=>by cases q) g⟩)
 ·exact .inr g
theorem yo.lst(z:yo H H')(h:H a=some (.lst xs)):H' a=some (.lst xs):=z _ _ (λk q=>by cases q) h
end
abbrev Tl:=List (Nat×V)
def ft(tl:Tl):List (cv×V):=tl.map λx=>(KN (x.1:Int),x.2)
theorem FW{tl:Tl}{v:Nat}:(dX (ft tl) (KN (v:Int))).isSome=decide (v∈tl.map (·.1)):=by
 induction tl with
 |nil=>rfl
 |cons x r ih=>
  by_cases c:x.1=v
  ·rw[show ft (x::r)=(KN (x.1:Int),x.2)::ft r from Z,dD (by rw[c]),decide_eq_true (by rw[KH];exact Kn.mpr (.inl c.symm))];rfl
  ·rw[show ft (x::r)=(KN (x.1:Int),x.2)::ft r from Z,dE (λz=>c (by have:(KN (x.1:Int):cv)=KN (v:Int):=z;injection this with this;omega)),ih];exact decide_eq_decide.mpr (by rw[KH,Kn];exact⟨.inr,λz=>z.resolve_left λq=>c q.symm⟩)
theorem Go{tl:Tl}{v:Nat}(h:v∉tl.map (·.1)):dZ (ft tl) (KN (v:Int)) o=ft (tl++[(v,o)]):=by
 have n:dX (ft tl) (KN (v:Int))=none:=by
  have:=FW (tl:=tl) (v:=v);rw[decide_eq_false h] at this
  cases e:dX (ft tl) (KN (v:Int)) with
  |none=>rfl
  |some x=>rw[e] at this;cases this
 rw[oA _ n];unfold ft;rw[Ku];rfl
theorem md:∀{tl:Tl} {v:Nat} {o:V},(tl.map (·.1)).Nodup->(v,o)∈tl->dX (ft tl) (KN (v:Int))=some o
 | [],v,o,_,h=>nomatch h
 |x::r,v,o,nd,h=>by
  rw[KH,Lo] at nd;rcases Kn.mp h with z|z
  ·subst z;exact dD (p:=((KN (v:Int):cv),o)) Z
  ·have ne:x.1≠v:=λq=>nd.1 (q▸Kc.mpr ⟨_,z,Z⟩)
   rw[show ft (x::r)=(KN (x.1:Int),x.2)::ft r from Z,dE (λz=>ne (by have:(KN (x.1:Int):cv)=KN (v:Int):=z;injection this with this;omega))];exact md nd.2 z
def vF(ws:List Wk)(h:Nat)(rs:List R):Prop:=rs.length=ws.length/\(∀r∈rs,Wf 60 r)/\yj ws (λj=>rs.getD j (0,1)) (J9 ws.length) (Ki 24 h)
theorem yj.congr(a:yj WS f ns fr):(∀j∈ns,f j=g j)->yj WS g ns fr:=by
 induction a with
 |nil=>intro _;exact .nil
 | @step ns fr r U F h n ih=>exact λe=>.step F (λj hj hu=>by rw[←e j hj];exact h j hj hu) (ih λj hj=>e j (Kl.mp hj).1)
structure TI(K:J5)(H:Hp)(P:Hp->V->R->Prop)(ws:List Wk)(h:Nat)(tl:Tl)(f:Nat->R)(ns fr:List Nat):Prop where
 nd:(tl.map (·.1)).Nodup
 vl:∀x∈tl,P H x.2 (f x.1)/\Wf 60 (f x.1)/\x.1<ws.length
 cov:ns=(J9 ws.length).filter λj=>!decide (j∈tl.map (·.1))
 rnd:∀g,(∀x∈tl,g x.1=f x.1)->yj ws g ns fr->yj ws g (J9 ws.length) (Ki 24 h)
 f24:fr.length=24
 f20:∀x∈fr,x≤20
 pos:ym ws ns fr
section
variable {K:J5}{H H':Hp}{P:Hp->V->R->Prop}{ws:List Wk}{h:Nat}{tl:Tl}{f:Nat->R}{ns fr:List Nat}
theorem TI.mono(T:TI K H P ws h tl f ns fr)(m:∀v r,P H v r->P H' v r):TI K H' P ws h tl f ns fr:=⟨T.nd,λx hx=>⟨m _ _ (T.vl x hx).1,(T.vl x hx).2⟩,T.cov,T.rnd,T.f24,T.f20,T.pos⟩
theorem TI.first(h1:1≤h)(h20:h≤20)(g:∀w∈ws,uk w):TI K H P ws h [] (λ_=>(0,1)) (J9 ws.length) (Ki 24 h):=by
 refine⟨Nz,(λx hx=>by cases hx),?_,λg _ n=>n,LW,λx hx=>?_,λj hj=>?_⟩
 ·exact(M3.mpr (λ_ _=>Z)).symm
 ·rw[(Os.mp hx).2];exact h20
 ·have gg:=g _ (eZ (Kk.mp hj));have w1:=gg.1;have w2:=gg.2.1;refine⟨(ws.getD j cC).1,by omega,dz.mpr ⟨Kb _,w1⟩,?_⟩;rw[au 0 (show(Ki 24 h)[(ws.getD j cC).1]?=some h by rw[Mj,if_pos (by omega)])];exact h1
theorem TI.lt(T:TI K H P ws h tl f ns fr)(hj:j∈ns):j<ws.length/\j∉tl.map (·.1):=by
 rw[T.cov] at hj;obtain⟨a,b⟩:=Kl.mp hj;exact⟨Kk.mp a,by simpa using b⟩
theorem TI.nodup(T:TI K H P ws h tl f ns fr):ns.Nodup:=by rw[T.cov];exact OP.filter _
theorem TI.sorted(T:TI K H P ws h tl f ns fr):ns.Pairwise (· < ·):=by rw[T.cov];exact NG.filter _
theorem TI.next(T:TI K H P ws h tl f ns fr)(F:kU ws ns fr r U)(wf:Wf 60 r)(e:tl'.map (·.1)=ns.filter U)(vl:∀x∈tl',P H x.2 r)(g:∀w∈ws,uk w):TI K H P ws h (tl++tl') (λj=>if j∈ns.filter U then r else f j) (ns.filter λj=>!U j) (nE fr (gW ws (ns.filter U))):=by
 have old:∀x∈tl,x.1∉ns.filter U:=λx hx m=>(T.lt (Kl.mp m).1).2 (Kc.mpr ⟨x,hx,Z⟩)
 have new:∀x∈tl',x.1∈ns.filter U:=λx hx=>by rw[←e];exact Kc.mpr ⟨x,hx,Z⟩
 refine⟨?_,λx hx=>?_,?_,λg' ag n=>?_,jD,λx hx=>?_,F.next T.f24 λj hj=>?_⟩
 ·rw[Ku,No,e];refine⟨T.nd,T.nodup.filter _,λa ha b hb z=>?_⟩;subst z;exact(T.lt (Kl.mp hb).1).2 ha
 ·rcases KG.mp hx with z|z
  ·rw[if_neg (old x z)];exact T.vl x z
  ·rw[if_pos (new x z)];exact⟨vl x z,wf,(T.lt (Kl.mp (new x z)).1).1⟩
 ·have c:=T.cov;rw[Ku,e];rw[show(J9 ws.length).filter (λj=>!decide (j∈tl.map (·.1)++ns.filter U))=ns.filter λj=>!decide (j∈tl.map (·.1)++ns.filter U) by
   conv=>rhs;rw[c]
   rw[Pu];refine MT λj hj=>?_
   by_cases q:j∈tl.map (·.1)
   ·rw[decide_eq_true q,decide_eq_true (La _ q),M9,N7]
   ·rw[decide_eq_false q,Ta,NT];exact congrArg (λb=>!b) (decide_eq_decide.mpr (by rw[←c]))]
  refine MT λj hj=>?_
  have nt:=(T.lt hj).2
  cases u:U j with
  |true=>rw[decide_eq_true (Kw _ (Kl.mpr ⟨hj,u⟩))]
  |false=>rw[decide_eq_false λm=>by
    rcases KG.mp m with z|z
    ·exact nt z
    ·rw[(Kl.mp z).2] at u;cases u]
 ·refine T.rnd g' (λx hx=>?_) (.step F (λj hj hu=>?_) n)
  ·rw[ag x (La _ hx)];exact if_neg (old x hx)
  ·have m:j∈tl'.map (·.1):=by rw[e];exact Kl.mpr ⟨hj,hu⟩
   obtain⟨x,hx,rfl⟩:=Kc.mp m;rw[ag x (Kw _ hx)];exact if_pos (new x hx)
 ·obtain⟨t,ht,rfl⟩:=Kc.mp hx;have ht:=Kk.mp ht;have f24:=T.f24;have:=T.f20 (fr.getD t 0) (by rw[au 0 (J6 (by omega:t<fr.length))];exact K6 _);omega
 ·exact qC (g _ (eZ (T.lt hj).1))
theorem TI.none(T:TI K H P ws h tl f [] fr):∀j,j<ws.length->∃v,(j,v)∈tl/\P H v (f j)/\Wf 60 (f j):=λj hj=>by
 have c:=T.cov;have m:j∈tl.map (·.1):=by
  apply KC;intro n;have:j∈(J9 ws.length).filter λj=>!decide (j∈tl.map (·.1)):=Kl.mpr ⟨Kk.mpr hj,by rw[decide_eq_false n];rfl⟩
  rw[←c] at this
  cases this
 obtain⟨x,hx,rfl⟩:=Kc.mp m;exact⟨x.2,hx,(T.vl x hx).1,(T.vl x hx).2.1⟩
theorem TI.ok(T:TI K H P ws h tl f [] fr):vF ws h ((J9 ws.length).map f):=by
 refine⟨by rw[J7,KB],λr hr=>?_,?_⟩
 ·obtain⟨j,hj,rfl⟩:=Kc.mp hr;obtain⟨v,_,_,w⟩:=T.none j (Kk.mp hj);exact w
 ·refine(T.rnd f (λ_ _=>Z) .nil).congr λj hj=>?_
  exact(au (0,1) (by rw[Kt,Mb (Kk.mp hj)];rfl)).symm
end
theorem uo(n:Nat):(B.upTo n).map V.int=aF (J9 n):=by unfold aF B.upTo;rw[KY];rfl
theorem C2(h:fr.length=24)(ht:t<24):((fr.getD t 0:Nat):Int)-(((dJ ws fr).getD t 0:Nat):Int)=(((nE fr ws).getD t 0:Nat):Int):=by
 have e:(dJ ws fr).getD t 0=min (fr.getD t 0) (ca ws t):=au 0 (by unfold dJ;rw[Kt,Mb (by omega)];rfl);rw[qD ht,e];omega
theorem nC:(gW WS L).length=L.length:=J7 _
theorem yo.ex(e:H d=some (.dK k))(z:∀b o,b≠d->H b=some o->H' b=some o):yo H H':=λb o n h=>z b o (λq=>by
 rw[q,e] at h;injection h with h;exact n k h.symm) h
theorem sx{P:V->R->Prop}{a:Nat->V}{b:Nat->R}:∀{L:List Nat},(∀i∈L,P (a i) (b i))->cK P (L.map a) (L.map b)
 | [],_=>.nil
 |i::L,h=>.cons (h i Kf) (sx λj hj=>h j (Km _ hj))
theorem ix{α:Type}(l:List α):l.filter (λ_=>true)=l:=M3.mpr λ_ _=>Z
def Jp(K:J5)(H:Hp)(v:V)(rs:List R):Prop:=∃p xs,v=.ref p/\bH K H p xs/\cK (RV K H) xs rs
def oa(_:J5):Sp:=λvs H Q _=>∃a b:Int,vs=[.int a,.int b]/\0<b/\b.natAbs<2^4000/\kO H Q (dk a b)
structure dM(H:Hp)(t l:Addr):Prop where
 ex:∃(ns:List Int) (p:Int),H t=some (.lst [.ref l,.int p])/\H l=some (.lst (ns.map V.int))/\l≠t/\0<ns.length/\ns.length≤1000
theorem dM.lst(h:dM H t l):∃xs,H t=some (.lst xs):=let ⟨_,_,e,_⟩:=h.ex;⟨_,e⟩
theorem dM.lst'(h:dM H t l):∃xs,H l=some (.lst xs):=let ⟨_,_,_,e,_⟩:=h.ex;⟨_,e⟩
theorem dM.same(h:dM H t l)(s:aC H H'):dM H' t l:=let ⟨ns,p,a,b,c⟩:=h.ex;⟨ns,p,s _ _ a,s _ _ b,c⟩
def nV(_:J5):Sp:=λvs H Q _=>∃(t l:Addr) (m:Int),vs=[.ref t,.int m]/\dM H t l/\0<m/\m<1073741824/\∀(r:Int) (xs:List V),0≤r->r<m->dM (av H t (.lst xs)) t l->Q (.int r) (av H t (.lst xs))
def jR(K:J5):Sp:=λvs H Q _=>∃(a:Addr) (ns:List Int) (k:Nat),vs=[.ref a,.int k]/\aO K H a (ns.map V.int)/\∀z:Int,Q (.int z) H
def mD(_:J5):Sp:=λvs H Q _=>∃(c:Int) (m:Nat),vs=[.int c,.int m]/\0<m/\m≤1000/\∀(l:Addr) (ns:List Int) (H':Hp),aC H H'->H l=none->H' l=some (.lst (ns.map V.int))->ns.length=m->Q (.ref l) H'
def nX(K:J5):Sp:=λvs H Q _=>∃(v w:V) (r q:R) (n m:Nat),vs=[v,w]/\RV K H v r/\RV K H w q/\Wf n r/\Wf m q/\n+m+1≤3000/\kO H Q (bj r q)
theorem uB{rs:List R}(h:rs[i]?=some r):cN (rs.take (i+1))=bj (cN (rs.take i)) r:=by
 unfold cN;rw[KP,h,NV];rfl
theorem dM.keep(h:dM H t l)(h1:∀o,H t=some o->H' t=some o)(h2:∀o,H l=some o->H' l=some o):dM H' t l:=by
 obtain⟨ns,p,e,f,c⟩:=h.ex;exact⟨ns,p,h1 _ e,h2 _ f,c⟩
def nO(S:List Addr)(H H':Hp):Prop:=∀b o,b∉S->H b=some o->H' b=some o
theorem nO.trans(a:nO S H H1)(b:nO S H1 H2):nO S H H2:=λc o n e=>b c o n (a c o n e)
theorem nO.of(z:aC H H'):nO S H H':=λb o _ e=>z b o e
theorem nO.tp(o:HO):nO [t] H (av H t o):=λb o' n e=>by rw[ak (λz=>n (by rw[z];exact Ks.mpr Z))];exact e
theorem wX(h1:1≤a)(h3:1≤b):0<(dk a b).1:=nh (by omega) (by omega)
theorem gA(z:aC H H')(e:H' x=none):H x=none:=by
 cases q:H x with
 |none=>rfl
 |some o=>rw[z x o q] at e;cases e
theorem cK.app{α:Type}{P:V->α->Prop}:∀{ys:List V} {ds:List α} {zs:List V} {es:List α},cK P ys ds->cK P zs es->cK P (ys++zs) (ds++es)
 |_,_,_,_,.nil,h=>h
 |_,_,_,_,.cons a t,h=>.cons a (cK.app t h)
theorem qO.deep{K:J5}{H:Hp}{v:V}{w:Wk}(h:qO K H v w):bS K H v (yy w):=by
 obtain⟨p,x,rfl,hS,rx⟩:=h;exact .tup hS (.cons (.int _) (.cons (.int _) (.cons rx.deep .nil)))
def mz(K:J5):Sp:=λvs H Q _=>∃(v w:V) (r q:R) (n m:Nat),vs=[v,w]/\RV K H v r/\RV K H w q/\Wf n r/\Wf m q/\n+m≤3000/\kO H Q (aJ r q)
structure Wl(K:J5)(H0:Hp)(t l lw:Addr)(H:Hp)(ws:List Wk):Prop where
 st:nO [t] H0 H
 tb:dM H t l
 hw:∃zs,H lw=some (.lst zs)/\cK (qO K H) zs ws
 ne:lw≠t
 nl:lw≠l
 f0:H0 lw=none
 gd:∀w∈ws,uk w
section
variable {K:J5}{H0 H H':Hp}{t l lw:Addr}{ws:List Wk}
theorem Wl.same(h:Wl K H0 t l lw H ws)(z:aC H H'):Wl K H0 t l lw H' ws:=by
 obtain⟨zs,e,al⟩:=h.hw;exact⟨h.st.trans (nO.of z),h.tb.same z,⟨zs,z _ _ e,al.mono λ_ _ q=>q.mono (aT.same z)⟩,h.ne,h.nl,h.f0,h.gd⟩
theorem Wl.tape(h:Wl K H0 t l lw H ws)(tb:dM (av H t (.lst xs)) t l):Wl K H0 t l lw (av H t (.lst xs)) ws:=by
 obtain⟨zs,e,al⟩:=h.hw;obtain⟨ys,et⟩:=h.tb.lst;exact⟨h.st.trans (nO.tp _),tb,⟨zs,by rw[ak h.ne];exact e,al.mono λ_ _ q=>q.mono (aT.up et xs)⟩,h.ne,h.nl,h.f0,h.gd⟩
theorem Wl.push(h:Wl K H0 t l lw H ws)(e:H lw=some (.lst zs))(al:cK (qO K H) zs ws)(wv:qO K H v w)(gd:uk w):Wl K H0 t l lw (av H lw (.lst (zs++[v]))) (ws++[w]):=by
 have t':=aT.up (K:=K) e (zs++[v]);refine⟨λb o n q=>by rw[ak (aB q h.f0)];exact h.st b o n q,h.tb.keep (λo q=>by rw[ak h.ne.symm];exact q) (λo q=>by rw[ak h.nl.symm];exact q),⟨_,zqd,(al.mono λ_ _ q=>q.mono t').snoc (wv.mono t')⟩,h.ne,h.nl,h.f0,λx hx=>?_⟩;rcases KG.mp hx with z|z
 ·exact h.gd x z
 ·rw[Ks.mp z];exact gd
end
def GH(K:J5)(H:Hp)(v:V)(x y:Int):Prop:=∃p,v=.ref p/\bH K H p [.int x,.int y]
theorem xb(ws:List Wk):(OW (ws.map yy)).canLay0=true:=gC λd hd=>by
 obtain⟨c,_,rfl⟩:=Kc.mp hd;rfl
theorem xQ(ws:List Wk):(OW (ws.map yy)).depth≤32:=by
 show Ol (ws.map yy)+1≤32;have:=fe (k:=2) (ds:=ws.map yy) λd hd=>by
  obtain⟨x,hx,rfl⟩:=Kc.mp hd;exact Kb 2
 omega
def mm(K:J5):Sp:=λvs H Q _=>∃(t l:Addr) (mo tu:Int),vs=[.ref t,.int mo,.int tu]/\dM H t l/\0≤mo/\mo≤20/\1≤tu/\tu≤24/\∀(v:V) (ws:List Wk) (H':Hp),nO [t] H H'->dM H' t l->iW K H' v ws->(ws.length:Int)≤mo->(∀w∈ws,uk w)->Q v H'
theorem lu:∀{n:Nat} {ns:List Nat},ns.length=n->∃t,dU ns=[]::t/\∀L∈t,L≠[]
 |0,ns,h=>by
  rw[LL.mp h];exact⟨[],Z,λL hL=>by cases hL⟩
 |n+1,ns,h=>by
  have ne:ns≠[]:=λz=>by rw[z] at h;cases h
  obtain⟨a,j,rfl⟩:∃a j,ns=a++[j]:=⟨ns.dropLast,ns.getLast ne,(MZ ne).symm⟩;rw[Ko,Ld] at h;obtain⟨t,e,q⟩:=lu (n:=n) (ns:=a) (by omega);refine⟨t++([]::t).map (·++[j]),by rw[gx,e];rfl,λL hL=>?_⟩;rcases KG.mp hL with z|z
  ·exact q L z
  ·obtain⟨M,_,rfl⟩:=Kc.mp z;exact λz=>by cases M<;>cases z
theorem jV:∀{n:Nat} {ns:List Nat},ns.length=n->(dU ns).length=2^n
 |0,ns,h=>by rw[LL.mp h];rfl
 |n+1,ns,h=>by
  have ne:ns≠[]:=λz=>by rw[z] at h;cases h
  obtain⟨a,j,rfl⟩:∃a j,ns=a++[j]:=⟨ns.dropLast,ns.getLast ne,(MZ ne).symm⟩;rw[Ko,Ld] at h;rw[gx,Ko,J7,jV (n:=n) (ns:=a) (by omega)];omega
theorem gX{L ns:List Nat}(nd:ns.Nodup)(h:L.Sublist ns):ns.filter (λj=>decide (j∈L))=L:=by
 induction h with
 |slnil=>rfl
 | @cons l ns a h ih=>
  rw[Lo] at nd;rw[K4 (by rw[decide_eq_true_iff];exact λz=>nd.1 (h.subset z))];exact ih nd.2
 | @cons_cons l ns a h ih=>
  rw[Lo] at nd;rw[Lc (by rw[decide_eq_true_iff];exact Kf)]
  congr 1
  refine Eq.trans (MT λj hj=>?_) (ih nd.2);refine decide_eq_decide.mpr ⟨λz=>?_,λz=>Km _ z⟩;rcases Kn.mp z with q|q
  ·exact absurd (q▸hj) nd.1
  ·exact q
def FM(r:R)(n:Int):R:=dk (r.1*1) (r.2*n)
def jp(ws:List Wk)(L:List Nat):R:=cN ((gW ws L).map λw=>w.2.2)
structure pF(ws:List Wk)(fr:List Nat)(Ls:List (List Nat))(sw:R)(fd:List Nat):Prop where
 rd:eh sw
 nn:0≤val sw
 wf:Wf 60 sw
 all:∀L∈Ls,fI (gW ws L)≤val sw*((bP (gW ws L) fr:Nat):Rat)
 mem:∀j,j∈fd↔∃L∈Ls,j∈L/\fI (gW ws L)=val sw*((bP (gW ws L) fr:Nat):Rat)
 atn:(Ls=[]/\val sw=0)∨∃L∈Ls,fI (gW ws L)=val sw*((bP (gW ws L) fr:Nat):Rat)
 len:fd.length≤6*Ls.length
theorem C1:pF ws fr [] (0,1) []:=by
 have e:val ((0,1):R)=0:=(bX (r:=(0,1)) (by decide)).mpr Z;exact⟨dA,by rw[e];exact MR,lZ.mono (by decide),(λL hL=>by cases hL),λj=>⟨λh=>(by cases h),λ⟨L,h,_⟩=>(by cases h)⟩,.inl ⟨Z,e⟩,Kb _⟩
structure Dl(ws:List Wk)(fr:List Nat)(L:List Nat):Prop where
 gd:∀w∈gW ws L,uk w
 ne:L≠[]
 len:L.length≤6
 bz:0<bP (gW ws L) fr
 f24:fr.length=24
theorem Ae:FM (cN (ws.map λw=>w.2.2)) (bP ws fr:Int)=cq ws fr:=by
 unfold FM cq aJ;rfl
theorem so(S:Dl ws fr L):eh (jp ws L)/\val (jp ws L)=fI (gW ws L)/\Bq 84 72 (jp ws L):=by
 obtain⟨a,b⟩:=xZ (ws:=gW ws L) λw hw=>(S.gd w hw).2.2.1.red
 refine⟨a,b,(gu (D:=84) (N:=12) (by decide) λr hr=>?_).mono (MN _) ?_⟩
 ·obtain⟨w,hw,rfl⟩:=Kc.mp hr;exact(S.gd w hw).2.2.1
 ·rw[J7,nC];have:=S.len;omega
theorem xq{a s:R}{b:Nat}(ha:0<a.2)(hs:0<s.2):a.1*s.2>s.1*(b:Int)*a.2↔val s*((b:Nat):Rat)<val a:=by
 have x1:(0:Rat)<((a.2:Int):Rat):=gM ha;have x2:(0:Rat)<((s.2:Int):Rat):=gM hs;unfold val;rw[Pt x1];have e:((s.1:Int):Rat)/((s.2:Int):Rat)*((b:Nat):Rat)*((a.2:Int):Rat)=(((s.1:Int):Rat)*((b:Nat):Rat)*((a.2:Int):Rat))/((s.2:Int):Rat):=by
  have:=cw hs;generalize ((s.1:Int):Rat)=x at *;generalize ((s.2:Int):Rat)=y at *;grind
 rw[e,Rat.div_lt_iff x2];have:s.1*(b:Int)*a.2<a.1*s.2↔((s.1*(b:Int)*a.2:Int):Rat)<((a.1*s.2:Int):Rat):=L7.symm;rw[KL,KL,KL,Mu] at this;exact this
theorem ma:val (((b:Nat):Int),1)=((b:Nat):Rat):=by
 unfold val;show(((b:Nat):Int):Rat)/((1:Int):Rat)=_;rw[Mu];show((b:Nat):Rat)/1=_;grind
section
variable {ws:List Wk}{fr:List Nat}{Ls:List (List Nat)}{L:List Nat}{sw:R}{fd:List Nat}
theorem pF.rise(F:pF ws fr Ls sw fd)(S:Dl ws fr L)(bz:∀L∈Ls,0<bP (gW ws L) fr)(h:(jp ws L).1*sw.2>sw.1*(bP (gW ws L) fr:Int)*(jp ws L).2):eh (cq (gW ws L) fr)/\Wf 60 (cq (gW ws L) fr)/\0≤val (cq (gW ws L) fr)/\val (cq (gW ws L) fr)*((bP (gW ws L) fr:Nat):Rat)=fI (gW ws L)/\∀M∈Ls,fI (gW ws M)<val (cq (gW ws L) fr)*((bP (gW ws M) fr:Nat):Rat):=by
 obtain⟨rd,ev,_⟩:=so S;have gl:(gW ws L).length≤6:=by rw[nC];exact S.len
 have gn:gW ws L≠[]:=λz=>S.ne (Rb.mp z)
 have b144:=xW (ws:=gW ws L) S.f24 gl;obtain⟨p1,p2,p3⟩:=rH S.f24 S.gd gl S.bz gn;have b0:=S.bz;have b':(0:Rat)<((bP (gW ws L) fr:Nat):Rat):=M0.mpr S.bz;have lt:=(xq rd.pos F.rd.pos).mp h;rw[ev,←p3] at lt;have slt:val sw<val (cq (gW ws L) fr):=by
  apply KC;intro z;have:=MD (Oq.mp z) (M7 b');grind
 have sn:=F.nn;refine⟨p1.red,p1.wf (by omega) (by omega) (by omega),by grind,p3,λM hM=>?_⟩;have a:=F.all M hM;have bM:(0:Rat)<((bP (gW ws M) fr:Nat):Rat):=M0.mpr (bz M hM);have:=Lx slt bM;grind
theorem pF.up(F:pF ws fr Ls sw fd)(S:Dl ws fr L)(bz:∀L∈Ls,0<bP (gW ws L) fr)(h:(jp ws L).1*sw.2>sw.1*(bP (gW ws L) fr:Int)*(jp ws L).2):pF ws fr (Ls++[L]) (cq (gW ws L) fr) L:=by
 obtain⟨a,b,c,d,e⟩:=F.rise S bz h;refine⟨a,c,b,λM hM=>?_,λj=>⟨λhj=>⟨L,Kw _ (Ks.mpr Z),hj,d.symm⟩,λ⟨M,hM,hj,q⟩=>?_⟩,.inr ⟨L,Kw _ (Ks.mpr Z),d.symm⟩,?_⟩
 ·rcases KG.mp hM with z|z
  ·exact M7 (e M z)
  ·rw[Ks.mp z,d];exact MR
 ·rcases KG.mp hM with z|z
  ·have:=e M z;grind
  ·rw[←Ks.mp z];exact hj
 ·rw[Ko,Ld];have:=S.len;omega
theorem pF.on(F:pF ws fr Ls sw fd)(S:Dl ws fr L)(h:¬(jp ws L).1*sw.2>sw.1*(bP (gW ws L) fr:Int)*(jp ws L).2)(q:fI (gW ws L)=val sw*((bP (gW ws L) fr:Nat):Rat)):pF ws fr (Ls++[L]) sw (fd++L):=by
 refine⟨F.rd,F.nn,F.wf,λM hM=>?_,λj=>⟨λhj=>?_,λ⟨M,hM,hj,e⟩=>?_⟩,.inr ⟨L,Kw _ (Ks.mpr Z),q⟩,?_⟩
 ·rcases KG.mp hM with z|z
  ·exact F.all M z
  ·rw[Ks.mp z,q];exact MR
 ·rcases KG.mp hj with z|z
  ·obtain⟨M,a,b⟩:=(F.mem j).mp z;exact⟨M,La _ a,b⟩
  ·exact⟨L,Kw _ (Ks.mpr Z),z,q⟩
 ·rcases KG.mp hM with z|z
  ·exact La _ ((F.mem j).mpr ⟨M,z,hj,e⟩)
  ·exact Kw _ (by rw[←Ks.mp z];exact hj)
 ·rw[Ko,Ko,Ld];have:=S.len;have:=F.len;omega
theorem pF.off(F:pF ws fr Ls sw fd)(S:Dl ws fr L)(h:¬(jp ws L).1*sw.2>sw.1*(bP (gW ws L) fr:Int)*(jp ws L).2)(q:fI (gW ws L)≠val sw*((bP (gW ws L) fr:Nat):Rat)):pF ws fr (Ls++[L]) sw fd:=by
 obtain⟨rd,ev,_⟩:=so S;have le:fI (gW ws L)≤val sw*((bP (gW ws L) fr:Nat):Rat):=by
  rw[xq rd.pos F.rd.pos,ev] at h;exact Oq.mp h
 refine⟨F.rd,F.nn,F.wf,λM hM=>?_,λj=>⟨λhj=>?_,λ⟨M,hM,hj,e⟩=>?_⟩,?_,?_⟩
 ·rcases KG.mp hM with z|z
  ·exact F.all M z
  ·rw[Ks.mp z];exact le
 ·obtain⟨M,a,b⟩:=(F.mem j).mp hj;exact⟨M,La _ a,b⟩
 ·rcases KG.mp hM with z|z
  ·exact(F.mem j).mpr ⟨M,z,hj,e⟩
  ·rw[Ks.mp z] at e;exact absurd e q
 ·rcases F.atn with⟨_,z⟩ | ⟨M,a,b⟩
  ·exfalso;have ap:0<fI (gW ws L):=by
    have gn:gW ws L≠[]:=λz=>S.ne (Rb.mp z)
    have hp:=qL (WS:=gW ws L) (ns:=J9 (gW ws L).length) (S:=λ_=>true) (j:=0) (λj hj=>qC (S.gd _ (eZ (Kk.mp hj)))) (Kk.mpr (Mv.mpr gn)) Z;rw[ix,C0] at hp;exact hp
   rw[z,OG] at le;grind
  ·exact .inr ⟨M,La _ a,b⟩
 ·rw[Ko,Ld];have:=F.len;omega
end
theorem sU(S:Dl ws fr L)(hs:eh sw):jp ws L=aJ sw (((bP (gW ws L) fr:Nat):Int),1)↔fI (gW ws L)=val sw*((bP (gW ws L) fr:Nat):Rat):=by
 obtain⟨rd,ev,_⟩:=so S;have rb:eh ((((bP (gW ws L) fr:Nat):Int),1):R):=⟨Int.one_pos,by show KA _ 1=1;exact Int.gcd_one⟩;have vt:=eD hs.pos rb.pos;rw[ma] at vt;rw[←ev,←vt];exact⟨λh=>by rw[←h],λh=>dr rd (iQ hs rb) h⟩
theorem pF.fst(nd:ns.Nodup)(f24:fr.length=24)(pos:ym ws ns fr)(n0:ns≠[])(e:dU ns=[]:: t)(q:∀L∈t,L≠[])(F:pF ws fr t sw fd):kU ws ns fr sw λj=>decide (j∈fd):=by
 have sub:∀L∈t,L.Sublist ns:=λL hL=>(dH Z).mp (by rw[e];exact Km _ hL)
 have inn:∀S:Nat->Bool,ns.filter S≠[]->ns.filter S∈t:=λS h=>by
  have m:ns.filter S∈dU ns:=(dH Z).mpr List.filter_sublist;rw[e] at m;exact(Kn.mp m).resolve_left h
 have tn:t≠[]:=λz=>by
  have:=inn (λ_=>true) (by rw[ix];exact n0);rw[z] at this
  cases this
 refine⟨F.rd,F.nn,?_,λS=>?_,λj hj=>?_⟩
 ·rcases F.atn with⟨z,_⟩ | ⟨L,hL,h⟩
  ·exact absurd z tn
  ·have ef:=gX nd (sub L hL);refine⟨λj=>decide (j∈L),?_,by rw[ef];exact h⟩
   cases L with
   |nil=>exact absurd Z (q _ hL)
   |cons i L=>exact v4 (S:=λj=>decide (j∈i::L)) f24 pos ((sub _ hL).subset Kf) (decide_eq_true Kf)
 ·by_cases c:ns.filter S=[]
  ·rw[c];show(0:Rat)≤val sw*((bP [] fr:Nat):Rat);rw[nH f24];show(0:Rat)≤val sw*0;rw[Pa];exact MR
  ·exact F.all _ (inn S c)
 ·rw[decide_eq_true_iff,F.mem];constructor
  ·rintro⟨L,hL,hj',h⟩;exact⟨λj=>decide (j∈L),decide_eq_true hj',by rw[gX nd (sub L hL)];exact h⟩
  ·rintro⟨S,hs,h⟩;have m:j∈ns.filter S:=Kl.mpr ⟨hj,hs⟩;exact⟨_,inn S (λz=>by rw[z] at m;cases m),m,h⟩
theorem g6:∀{a b:List Int},a.Pairwise (· < ·)->b.Pairwise (· < ·)->(∀z,z∈a↔z∈b)->a=b
 | [],[],_,_,_=>rfl
 | [],y::b,_,_,h=>absurd ((h y).mpr Kf) (by simp)
 |x::a,[],_,_,h=>absurd ((h x).mp Kf) (by simp)
 |x::a,y::b,ha,hb,h=>by
  rw[Nd] at ha hb;have e:x=y:=by
   rcases Kn.mp ((h x).mp Kf) with z|z
   ·exact z
   ·rcases Kn.mp ((h y).mpr Kf) with w|w
    ·exact w.symm
    ·have:=hb.1 x z;have:=ha.1 y w;omega
  subst e
  congr 1
  refine g6 ha.2 hb.2 λz=>⟨λq=>?_,λq=>?_⟩
  ·rcases Kn.mp ((h z).mp (Km _ q)) with w|w
   ·have:=ha.1 z q;omega
   ·exact w
  ·rcases Kn.mp ((h z).mpr (Km _ q)) with w|w
   ·have:=hb.1 z q;omega
   ·exact w
theorem yH{ns fd:List Nat}{ms:List Int}(sr:ns.Pairwise (· < ·))(sb:∀j∈fd,j∈ns)(hp:ms.Perm (bC (fd.map λn:Nat=>(n:Int))))(hs:ms.Pairwise (·≤·)):ms.map V.int=aF (ns.filter λj=>decide (j∈fd)):=by
 have nd:ms.Nodup:=hp.nodup_iff.mpr (fk _);have s1:ms.Pairwise (· < ·):=(hs.and nd).imp λ⟨a,b⟩=>Q1.mpr ⟨a,b⟩
 have s2:((ns.filter λj=>decide (j∈fd)).map λn:Nat=>(n:Int)).Pairwise (· < ·):=by
  rw[MU];exact(sr.filter _).imp λh=>Int.ofNat_lt.mpr h
 have e:ms=(ns.filter λj=>decide (j∈fd)).map λn:Nat=>(n:Int):=by
  refine g6 s1 s2 λz=>?_
  rw[hp.mem_iff,gi];constructor
  ·intro h;obtain⟨j,hj,rfl⟩:=Kc.mp h;exact Kc.mpr ⟨j,Kl.mpr ⟨sb j hj,decide_eq_true hj⟩,Z⟩
  ·intro h;obtain⟨j,hj,rfl⟩:=Kc.mp h;exact Kc.mpr ⟨j,of_decide_eq_true (Kl.mp hj).2,Z⟩
 rw[e,gh]
theorem w8(h:Bq 279826853195846425060726789948611029097316354959409733296838400000 5120 r):Wf 800 r:=h.wf (by decide) (by decide) (by decide)
def sY(K:J5):Sp:=λvs H Q _=>∃(v w:V) (r:R) (z:Int),vs=[v,w]/\RV K H v r/\RV K H w (z,1)/\Wf 60 r/\0<z/\z≤200/\kO H Q (FM r z)
def mn(K:J5):Sp:=λvs H Q _=>∃(a:Addr) (xs:List V) (rs:List R),vs=[.ref a]/\aO K H a xs/\cK (RV K H) xs rs/\(∀r∈rs,Bq 279826853195846425060726789948611029097316354959409733296838400000 256 r)/\rs.length≤20/\∀(v':V) (H':Hp),aC H H'->RV K H' v' (cN rs)->Q v' H'
def oh(K:J5):Sp:=λvs H Q _=>∃(v:V) (a b:Addr) (ws:List Wk) (L fr:List Nat),vs=[v,.ref a,.ref b]/\iW K H v ws/\aO K H a (aF L)/\L.length≤20/\(∀j∈L,j<ws.length)/\aO K H b (aF fr)/\fr.length=24/\∀(l:Addr) (H':Hp),aC H H'->H l=none->H' l=some (.lst (aF (dJ (gW ws L) fr)))->Q (.ref l) H'
def Fm(H:Hp)(v:V)(L:List Nat):Prop:=∃p,v=.ref p/\H p=some (.lst (aF L))
theorem Fm.same(h:Fm H v L)(s:aC H H'):Fm H' v L:=let ⟨p,e,q⟩:=h;⟨p,e,s _ _ q⟩
def nW(K:J5):Sp:=λvs H Q _=>∃(a:Addr) (ns:List Nat),vs=[.ref a]/\aO K H a (aF ns)/\ns.length≤6/\∀(l:Addr) (ys:List V) (t:List (List Nat)) (H':Hp),aC H H'->H' l=some (.lst ys)->cK (Fm H') ys t->dU ns=[]::t->(∀L∈t,L≠[])->Q (.ref l) H'
def jQ(K:J5):Sp:=λvs H Q _=>∃(v:V) (a b:Addr) (ws:List Wk) (ns fr:List Nat),vs=[v,.ref a,.ref b]/\iW K H v ws/\yg ws/\aO K H a (aF ns)/\ns≠[]/\ns.Pairwise (· < ·)/\(∀j∈ns,j<ws.length)/\aO K H b (aF fr)/\fr.length=24/\ym ws ns fr/\∀(q l:Addr) (vr:V) (r:R) (U:Nat->Bool) (H':Hp),aC H H'->bH K H' q [vr,.ref l]->RV K H' vr r->H' l=some (.lst (aF (ns.filter U)))->kU ws ns fr r U->Wf 60 r->Q (.ref q) H'
def kK(K:J5):Sp:=λvs H Q _=>∃(v:V) (h:Nat) (ws:List Wk),vs=[v,.int (h:Nat)]/\iW K H v ws/\yg ws/\1≤h/\h≤20/\∀(v':V) (rs:List R) (H':Hp),aC H H'->Jp K H' v' rs->vF ws h rs->Q v' H'
theorem wH{ns fd:List Nat}(nd:ns.Nodup)(sb:∀j∈fd,j∈ns):(bC (fd.map λn:Nat=>(n:Int))).length≤ns.length:=by
 have p:(bC (fd.map λn:Nat=>(n:Int))).Perm ((ns.filter λj=>decide (j∈fd)).map λn:Nat=>(n:Int)):=by
  refine(List.perm_ext_iff_of_nodup (fk _) ?_).mpr λz=>?_
  ·unfold KU;rw[MU];exact(nd.filter _).imp λh z=>h (by omega)
  ·rw[gi];constructor
   ·intro h;obtain⟨j,hj,rfl⟩:=Kc.mp h;exact Kc.mpr ⟨j,Kl.mpr ⟨sb j hj,decide_eq_true hj⟩,Z⟩
   ·intro h;obtain⟨j,hj,rfl⟩:=Kc.mp h;exact Kc.mpr ⟨j,of_decide_eq_true (Kl.mp hj).2,Z⟩
 rw[p.length_eq,J7];exact Lm _ _
theorem E7(h:b≤200):Wf 8 (((b:Nat):Int),1):=⟨Int.one_pos,by show((b:Nat):Int).natAbs<256;omega,by show(1:Int).natAbs<2^8;decide,by show KA _ 1=1;exact Int.gcd_one⟩
theorem rW{K:J5}{H:Hp}:∀ns:List Nat,be K H (aF ns) (ns.map λn:Nat=>LS (n:Int))
 | []=>.nil
 |n::ns=>.cons (.int _) (rW ns)
theorem CP(ns:List Nat):(OW (ns.map λn:Nat=>LS (n:Int))).canLay0=true:=gC λd hd=>by
 obtain⟨c,_,rfl⟩:=Kc.mp hd;rfl
theorem Db(ns:List Nat):(OW (ns.map λn:Nat=>LS (n:Int))).depth≤32:=by
 show Ol (ns.map λn:Nat=>LS (n:Int))+1≤32;have:=fe (k:=0) (ds:=ns.map λn:Nat=>LS (n:Int)) λd hd=>by
  obtain⟨x,hx,rfl⟩:=Kc.mp hd;exact Kb 0
 omega
theorem xB(ns:List Nat):(aF ns).all iy=true:=Mm.mpr λx hx=>by
 obtain⟨n,_,rfl⟩:=Kc.mp hx;rfl
section
variable {WS:List Wk}{ns fr:List Nat}
theorem kU.down(F:kU WS ns fr r U)(h:fr.length=24)(F':kU WS (ns.filter λj=>!U j) (nE fr (gW WS (ns.filter U))) r' U'):val r'≤val r:=by
 obtain⟨S,b,e⟩:=F'.atn;have ef:(ns.filter λj=>!U j).filter S=ns.filter λj=>S j&&!U j:=Pu
 rw[ef] at b e;have no:∀j∈ns,(U j&&(S j&&!U j))=false:=λj _=>by cases U j<;>cases S j<;>rfl
 have m:=m8 (WS:=WS) U (λj=>S j&&!U j) ns;rw[jH (S:=λj=>U j&&(S j&&!U j)) no] at m;have z:fI (gW WS [])=0:=Z;have le:bP (gW WS (ns.filter λj=>U j||(S j&&!U j))) fr≤bP (gW WS (ns.filter U)) fr+bP (gW WS (ns.filter λj=>S j&&!U j)) (nE fr (gW WS (ns.filter U))):=by
  have e1:=fH (ws:=gW WS (ns.filter λj=>U j||(S j&&!U j))) h;have e2:=fH (ws:=gW WS (ns.filter U)) h;have e3:=fH (ws:=gW WS (ns.filter λj=>S j&&!U j)) (fr:=nE fr (gW WS (ns.filter U))) jD;have l:=gO (f:=λt=>((min (fr.getD t 0) (ca (gW WS (ns.filter λj=>U j||(S j&&!U j))) t):Nat):Int)) (g:=λt=>((min (fr.getD t 0) (ca (gW WS (ns.filter U)) t):Nat):Int)+((min ((nE fr (gW WS (ns.filter U))).getD t 0) (ca (gW WS (ns.filter λj=>S j&&!U j)) t):Nat):Int)) (n:=24) λt ht=>by
   obtain⟨a,_,_⟩:=jB (WS:=WS) U (λj=>S j&&!U j) t ns;have c0:ca (gW WS (ns.filter λj=>U j&&(S j&&!U j))) t=0:=by rw[jH no];rfl
   rw[qD ht];omega
  rw[f8] at l;omega
 have t:=F.tight h;have a:=F.all λj=>U j||(S j&&!U j)
 have l:=LP (NH.mpr le) F.nn;rw[Qy,PJ] at l;have b':(0:Rat)<((bP (gW WS (ns.filter λj=>S j&&!U j)) (nE fr (gW WS (ns.filter U))):Nat):Rat):=M0.mpr b;apply KC;intro q;have:=Lx (ON.mp q) b';grind
theorem yj.le(a:yj WS f ns fr):fr.length=24->∀{r:R} {U:Nat->Bool},kU WS ns fr r U->∀j∈ns,val (f j)≤val r:=by
 induction a with
 |nil=>intro _ _ _ _ j hj;cases hj
 | @step ns fr r0 U0 F0 h n ih=>
  intro f24 r U F j hj;obtain⟨e,eu⟩:=F.uniq F0;by_cases c:U0 j=true
  ·rw[h j hj c,e];exact MR
  ·have m:j∈ns.filter λj=>!U0 j:=Kl.mpr ⟨hj,by cases d:U0 j with|true=>exact absurd d c|false=>rfl⟩
   generalize e1:ns.filter (λj=>!U0 j)=ns' at n ih m;generalize e2:nE fr (gW WS (ns.filter U0))=fr' at n ih
   cases n with
   |nil=>cases m
   | @step _ _ r2 U2 F2 h2 n2=>
    have l:=ih (by rw[←e2];exact jD) F2 j m;rw[←e1,←e2] at F2;have:=F0.down f24 F2;rw[e];exact Sa l this
end
def fF(s x:R):R:=if cy s x=true then x else s
theorem CL(hs:0<s.2)(hx:0<x.2):val s≤val (fF s x)/\val x≤val (fF s x)/\(fF s x=s∨fF s x=x):=by
 unfold fF
 cases c:cy s x with
 |true=>
  rw[if_pos Z];have:=(fZ hs hx).mp c;exact⟨M7 this,MR,.inr Z⟩
 |false=>
  rw[if_neg Kj];have:=(fL hs hx).mp c;exact⟨MR,this,.inl Z⟩
theorem rM:∀{rs:List R} {s:R},0<s.2->(∀r∈rs,0<r.2)->val s≤val (rs.foldl fF s)/\(∀r∈rs,val r≤val (rs.foldl fF s))/\(rs.foldl fF s=s∨rs.foldl fF s∈rs)
 | [],s,_,_=>⟨MR,(λr hr=>by cases hr),.inl Z⟩
 |x::rs,s,hs,h=>by
  have hx:=h x Kf;obtain⟨a,b,c⟩:=CL hs hx;have hp:0<(fF s x).2:=by rcases c with z|z<;>rw[z]<;>assumption
  obtain⟨d,e,f⟩:=rM (rs:=rs) hp λr hr=>h r (Km _ hr)
  rw[NO];refine⟨Sa a d,λr hr=>?_,?_⟩
  ·rcases Kn.mp hr with z|z
   ·rw[z];exact Sa b d
   ·exact e r z
  ·rcases f with z|z
   ·rw[z];rcases c with w|w
    ·exact .inl w
    ·rw[w];exact .inr Kf
   ·exact .inr (Km _ z)
theorem ot(ok:vF ws h rs)(n0:ws≠[]):∃r U,kU ws (J9 ws.length) (Ki 24 h) r U/\rs.foldl fF (0,1)=r:=by
 obtain⟨rl,wf,rn⟩:=ok;have m0:0∈J9 ws.length:=Kk.mpr (Mv.mpr n0);generalize ens:J9 ws.length=ns at rn m0;generalize efr:Ki 24 h=fr at rn;have f24:fr.length=24:=by rw[←efr];exact LW
 cases id rn with
 |nil=>cases m0
 | @step _ _ r U F hh n=>
  refine⟨r,U,F,?_⟩;have le:=rn.le f24 F;obtain⟨j,hj,hu⟩:=F.some f24;have e:=hh j hj hu;rw[←ens] at hj le;have jl:=Kk.mp hj;have mr:r∈rs:=by
   rw[←e,au (0,1) (J6 (show j<rs.length by omega))];exact K6 _
  obtain⟨a,b,c⟩:=rM (rs:=rs) (s:=(0,1)) (by decide) λq hq=>(wf q hq).pos
  have red:eh (rs.foldl fF (0,1)):=by
   rcases c with z|z
   ·rw[z];exact dA
   ·exact(wf _ z).red
  refine dr red F.rd (O1 ?_ (b r mr));rcases c with z|z
  ·rw[z];have:val ((0,1):R)=0:=(bX (r:=(0,1)) (by decide)).mpr Z;rw[this];exact F.nn
  ·obtain⟨i,hi,ei⟩:=Lj.mp z;have:=le i (Kk.mpr (by omega));rw[au (0,1) (J6 hi),ei] at this;exact this
theorem oU{s:Ps}{sl:Sl}{tp:R}{B:Int}{h:Nat}{rs:List R}(E:uj s sl)(L:Ds s tp B)(ef:s.fr=Ki 24 h)(ok:vF s.ws h rs)(t0:0≤val tp):sl=[]↔val (rs.foldl fF (0,1))≤val tp:=by
 by_cases n0:s.ws=[]
 ·constructor
  ·intro _;have:rs=[]:=LL.mp (by rw[ok.1,n0];rfl);rw[this];have z:val ((0,1):R)=0:=(bX (r:=(0,1)) (by decide)).mpr Z;show val ((0,1):R)≤val tp;rw[z];exact t0
  ·intro _
   cases c:sl with
   |nil=>rfl
   |cons x t=>
    have rr:=(E.key x.1).mp (by rw[c];exact Kf);have:∀v,iM s.net s.pf (λi=>0<s.net.rest s.pf i) v->∃i,i<s.ws.length:=λv z=>by
     induction z with
     |st hi h=>exact⟨_,hi⟩
     |fw _ _ _ _ _ ih=>exact ih
     |bw _ _ _ _ ih=>exact ih
    obtain⟨i,hi⟩:=this _ rr;rw[n0] at hi;exact absurd hi (by show ¬i<0;omega)
 ·obtain⟨r,U,F,er⟩:=ot ok n0;rw[er];rw[←ef] at F;constructor
  ·intro e;have full:=lD E e;obtain⟨S,b,q⟩:=F.atn;have a:=Dg E.F.fl full S;have a':((s.net.am S:Int):Rat)≤((s.M*s.net.bz S:Int):Rat):=NI.mpr a;rw[wN L,Ho E.F.ok L,kd (gM L.b0),q] at a';have b':(0:Rat)<((bP (gW s.ws ((J9 s.ws.length).filter S)) s.fr:Nat):Rat):=M0.mpr b;apply KC;intro z;have:=Lx (ON.mp z) b';grind
  ·intro le;apply KC;intro ne;have sh:=ql E L ne;have a:=F.all λi=>decide (i∈sl.map (·.1))
   have n0:(0:Rat)≤((bP (gW s.ws ((J9 s.ws.length).filter λi=>decide (i∈sl.map (·.1)))) s.fr:Nat):Rat):=by
    have:=NH.mpr (KJ (bP (gW s.ws ((J9 s.ws.length).filter λi=>decide (i∈sl.map (·.1)))) s.fr));exact this
   have:=MD le n0;grind
theorem wP(F:nL N P)(C:An N P W T)(hi:i<N.n)(hW:W i=true)(hr:0<N.rest P i):N.M*sm (λt=>iB (T t) (N.fr t)) 24<sm (λi=>iB (W i) (N.A i-N.M*sm (λt=>iB (N.win i t&&!T t) 1) 24)) N.n:=by
 have e1:sm (λi=>iB (W i) (N.A i-N.M*sm (λt=>iB (N.win i t&&!T t) 1) 24)) N.n=sm (λi=>iB (W i) (N.rest P i)+iB (W i) (sm (λt=>iB (T t) (P i t)) 24)) N.n:=bg λi hi=>by
  cases c:W i with
  |false=>rfl
  |true=>
   show N.A i-N.M*sm (λt=>iB (N.win i t&&!T t) 1) 24=N.rest P i+sm (λt=>iB (T t) (P i t)) 24;rw[←f7];have e:sm (P i) 24=sm (λt=>iB (T t) (P i t)+N.M*iB (N.win i t&&!T t) 1) 24:=bg λt ht=>by
    cases d:T t with
    |true=>
     rw[M9,N7,qA,M6,R8];rfl
    |false=>
     rw[Ta,NT,qA]
     cases w:N.win i t with
     |false=>rw[F.out i t hi ht w,qA,M6];rfl
     |true=>
      have h1:=F.hi i t hi ht;have:¬P i t<N.M:=λz=>by rw[C.fwd i t hi ht c w z] at d;cases d
      rw[xo,Sw];omega
   rw[f8] at e;unfold eX.rest;omega
 rw[e1,f8];have e2:sm (λi=>iB (W i) (sm (λt=>iB (T t) (P i t)) 24)) N.n=N.M*sm (λt=>iB (T t) (N.fr t)) 24:=by
  rw[bg (g:=λi=>sm (λt=>iB (W i) (iB (T t) (P i t))) 24) λi _=>AT _ _ _,mH,←f7];refine bg λt ht=>?_
  cases d:T t with
  |false=>
   rw[bg (g:=λ_=>0) λi _=>by cases W i<;>rfl,fb,qA,M6]
  |true=>
   have e:sm (λi=>iB (W i) (iB true (P i t))) N.n=sm (λi=>P i t) N.n:=bg λi hi=>by
    cases c:W i with
    |true=>rfl
    |false=>
     have h0:=F.lo i t hi ht;have:¬0<P i t:=λz=>by rw[C.bwd t i ht hi d z] at c;cases c
     show(0:Int)=P i t;omega
   have r:=C.full t ht d;unfold eX.room at r;rw[e,xo];omega
 rw[e2];have nn:∀j,j<N.n->0≤iB (W j) (N.rest P j):=λj hj=>by
  cases W j with
  |true=>exact F.rs j hj
  |false=>exact N6 _
 have m:=mJ nn hi;rw[hW,xo] at m;omega
theorem jT(p:Nat->Bool)(n:Nat):sm (λi=>iB (p i) 1) n=(((J9 n).filter p).length:Nat):=by
 have e:=j8 (S:=λ_=>true) (p:=p) n;rw[ix] at e;exact e
theorem yC(h1:w.1≤w.2.1)(h2:w.2.1<24)(q:Nat->Bool):sm (λt=>iB (gL w t&&q t) 1) 24=((((J9 (w.2.1+1-w.1)).filter λi=>q (w.1+i)).length:Nat):Int):=by
 rw[jT]
 congr 1
 have e:J9 24=(J9 w.1++(J9 (w.2.1+1-w.1)).map (w.1+·))++(J9 (24-(w.2.1+1))).map (w.2.1+1+·):=by
  rw[←Tb,show w.1+(w.2.1+1-w.1)=w.2.1+1 by omega,←Tb]
  congr 1
  omega
 rw[e,Lv,Lv,Ko,Ko];have f1:(J9 w.1).filter (λt=>gL w t&&q t)=[]:=L8.mpr λt ht z=>by
  have:=Kk.mp ht;rw[LG,dz] at z;omega
 have f3:((J9 (24-(w.2.1+1))).map (w.2.1+1+·)).filter (λt=>gL w t&&q t)=[]:=L8.mpr λt ht z=>by
  obtain⟨k,hk,rfl⟩:=Kc.mp ht;rw[LG,dz] at z;omega
 rw[f1,f3,Oj,J7];show 0+_+0=_;rw[Nat.zero_add,Nat.add_zero]
 congr 1
 refine MT λi hi=>?_
 have:=Kk.mp hi;show(gL w (w.1+i)&&q (w.1+i))=q (w.1+i);rw[dz.mpr ⟨by omega,by omega⟩,Bool.true_and]
theorem lj{f:Nat->Int}{g:Nat->Rat}{c:Rat}:∀{n:Nat},(∀i,i<n->(f i:Rat)≤c*g i)->((sm f n:Int):Rat)≤c*((J9 n).map g).sum
 |0,_=>by
  show((0:Int):Rat)≤c*0;rw[Pa];exact MR
 |n+1,h=>by
  have ih:=lj (n:=n) λi hi=>h i (by omega)
  have e:=h n (by omega);show((sm _ n+f n:Int):Rat)≤_;rw[Oi,LU,Ku,jN,PJ,KH,OE,Mo,O9];grind
structure kT(w:Wk):Prop where
 le:w.1≤w.2.1
 lt:w.2.1<24
 am:Bq 84 12 w.2.2
theorem Fb(h:Bq 84 12 r):Bq 84 12 r:=h
theorem kT.of(g:uk w):kT w:=⟨g.1,g.2.1,g.2.2.1⟩
def uJ(K:J5):Sp:=λvs H Q _=>∃(v w:V) (r q:R) (n m:Nat),vs=[v,w]/\RV K H v r/\RV K H w q/\Wf n r/\Wf m q/\n+m+1≤3000/\Fs K H Q (eL r q)
def jS(K:J5):Sp:=λvs H Q _=>∃(v w:V) (r q:R) (n m:Nat),vs=[v,w]/\RV K H v r/\RV K H w q/\Wf n r/\Wf m q/\n+m+1≤3000/\Q (.bl (cy r q)) H
def zP(ls:List Nat):Kv:=.tuple (ls.map λn:Nat=>LS n)
theorem kx{K:J5}{H:Hp}{p:Addr}{ls:List Nat}(h:bH K H p (aF ls)):bS K H (.ref p) (zP ls):=by
 refine .tup h ?_;clear h;unfold aF
 induction ls with
 |nil=>exact .nil
 |cons x r ih=>exact .cons (.int _) ih
theorem xT(h:KA a b=1):KA (-a) b=1:=by rw[Int.neg_gcd];exact h
theorem fo(h:i.natAbs≤n):Bq 1 n ((i,1):R):=⟨by show(0:Int)<1;decide,by show KA i 1=1;simp,⟨1,by show((1:Nat):Int)=1*1;decide⟩,by show i.natAbs≤n*1;omega⟩
def oi(K:J5):Sp:=λvs H Q _=>∃(v:V) (d:Kv),vs=[v]/\bS K H v d/\Q (.bl (l7 d)) H
theorem pI(h:l7 d=true):∃i,d=.int i:=by
 cases d with
 |int i=>exact⟨i,Z⟩
 |_=>cases h
theorem yd(ds:List Kv):((J9 ds.length).map λi=>f (ds.getD i .none)).all id=ds.all f:=by
 rw[L1,Mm,Mm];constructor
 ·intro h d hd;obtain⟨i,hi,e⟩:=Lj.mp hd;have:=h (f (ds.getD i .none)) (Kc.mpr ⟨i,Kk.mpr hi,Z⟩);rw[au SC (J6 hi),e] at this;exact this
 ·intro h b hb;obtain⟨i,hi,rfl⟩:=Kc.mp hb;have hi':=Kk.mp hi;rw[au SC (J6 hi')];exact h _ (K6 hi')
def jk:Kv->Bool
 | .int i=>decide (0≤i)&&decide (i<24)
 |_=>false
def wO:Kv->Nat
 | .int i=>i.toNat
 |_=>0
def tj(ls:List Nat):Bool:=(J9 (ls.length-1)).all λi=>decide (ls.getD i 0<ls.getD (i+1) 0)
def Jd:Kv->List Kv
 | .tuple ds=>ds
 |_=>[]
def Ee:Kv->Bool
 | .tuple ds=>ds.all jk&&tj (ds.map wO)
 |_=>false
theorem rK:∀{ds:List Kv},ds.all jk=true->∃ls:List Nat,ds=ls.map (λn:Nat=>LS n)/\∀n∈ls,n<24
 | [],_=>⟨[],Z,λn hn=>by cases hn⟩
 |d::ds,h=>by
  rw[OR,LG] at h;obtain⟨ls,e,hl⟩:=rK h.2
  cases d with
  |int i=>
   have h1:(decide (0≤i)&&decide (i<24))=true:=h.1;rw[LG,decide_eq_true_iff,decide_eq_true_iff] at h1;refine⟨i.toNat::ls,?_,λn hn=>?_⟩
   ·rw[KH,←e];show _=LS ((i.toNat:Nat):Int)::ds;rw[Rc h1.1]
   ·rcases Kn.mp hn with z|z
    ·omega
    ·exact hl n z
  |_=>cases h.1
theorem rL{ls:List Nat}:(ls.map (λn:Nat=>LS n)).map wO=ls:=by
 rw[KY];exact(Nx λn _=>by show((n:Int)).toNat=n;omega).trans (PF _)
theorem lM{K:J5}{H:Hp}:∀{ls:List Nat} {xs:List V},be K H xs (ls.map λn:Nat=>LS n)->xs=aF ls
 | [],_,.nil=>rfl
 |n::ls,_,.cons h t=>by
  cases h
  rw[lM t];rfl
theorem vG:tj ls=true↔ls.Pairwise (· < ·):=by
 unfold tj;rw[Mm];constructor
 ·intro h
  induction ls with
  |nil=>exact .nil
  |cons x r ih=>
   have ih':r.Pairwise (· < ·):=ih λi hi=>by
    have hi':=Kk.mp hi;have:=h (i+1) (Kk.mpr (by rw[Lb];omega))
    simpa using this
   cases r with
   |nil=>exact List.pairwise_singleton _ _
   |cons y r=>
    have h0:=of_decide_eq_true (h 0 (Kk.mpr (by simp)));have h0':x<y:=h0;refine Nd.mpr ⟨λz hz=>?_,ih'⟩;rcases Kn.mp hz with e|e
    ·omega
    ·have:=(Nd.mp ih').1 z e;omega
 ·intro h i hi;have hi':=Kk.mp hi;refine decide_eq_true ?_;have e1:ls[i]?=some (ls[i]'(by omega)):=J6 _;have e2:ls[i+1]?=some (ls[i+1]'(by omega)):=J6 _;rw[au 0 e1,au 0 e2];exact Ni.mp h i (i+1) (by omega) (by omega) (MC i)
def bZ(ls:List Nat)(w:Wk):Nat:=((J9 (w.2.1+1-w.1)).filter λi=>!ls.contains (w.1+i)).length
def bU(tp:R)(ls:List Nat)(w:Wk):R:=eL w.2.2 (aJ tp ((bZ ls w:Int),1))
def eP(tp:R)(ls:List Nat)(w:Wk):R:=if 0<(bU tp ls w).1 then bU tp ls w else(0,1)
def dS(ws:List Wk)(tp:R)(ls:List Nat):R:=cN (ws.map (eP tp ls))
def c7(hn:Nat)(tp:R)(ls:List Nat):R:=aJ tp (((hn*ls.length:Nat):Int),1)
abbrev iY(tp:R):Prop:=Bq 279826853195846425060726789948611029097316354959409733296838400000 216 tp
theorem qm(h:w.2.1<24):bZ ls w≤24:=by
 unfold bZ;refine K5 (Lm _ _) ?_;rw[KB];omega
theorem jt(ht:iY tp)(ok:kT w):Bq 279826853195846425060726789948611029097316354959409733296838400000 5196 (bU tp ls w):=by
 have a:Bq 279826853195846425060726789948611029097316354959409733296838400000 12 w.2.2:=(Fb ok.am).mono ⟨3331272061855314584056271308912036060682337559040592063057600000,by decide⟩ (by decide);have o:=qm (ls:=ls) ok.lt;have b:Bq 279826853195846425060726789948611029097316354959409733296838400000 5184 (aJ tp ((bZ ls w:Int),1)):=(ht.times (fo (i:=(bZ ls w:Int)) (n:=24) (by omega))).mono ⟨1,by decide⟩ (by decide);exact Bq.minus (by decide) a b
theorem qH(ht:iY tp)(ok:kT w):Bq 279826853195846425060726789948611029097316354959409733296838400000 5196 (eP tp ls w):=by
 unfold eP
 split
 ·exact jt ht ok
 ·exact E9.mono (MN _) (by decide)
theorem mU(ht:iY tp)(h9:hn≤9)(hl:ls.length≤24):Bq 279826853195846425060726789948611029097316354959409733296838400000 46656 (c7 hn tp ls):=by
 have:hn*ls.length≤9*24:=Pk h9 hl;exact(ht.times (fo (i:=((hn*ls.length:Nat):Int)) (n:=216) (by omega))).mono ⟨1,by decide⟩ (by decide)
theorem ie(ht:iY tp)(ok:∀w∈ws,kT w)(h9:ws.length≤9):Bq 279826853195846425060726789948611029097316354959409733296838400000 46764 (dS ws tp ls):=by
 have:Bq 279826853195846425060726789948611029097316354959409733296838400000 (5196*(ws.map (eP tp ls)).length) (dS ws tp ls):=gu (by decide) λr hr=>by
  obtain⟨w,hw,rfl⟩:=Kc.mp hr;exact qH ht (ok w hw)
 rw[J7] at this;exact this.mono (MN _) (by omega)
theorem di(h:Bq 279826853195846425060726789948611029097316354959409733296838400000 N r)(hN:N≤60000):Wf 240 r:=(h.mono (MN _) hN).wf (by decide) (by decide) (by decide)
theorem yB(h:eh r)(z:r.1=0):r=(0,1):=by
 refine dr h ⟨by decide,by decide⟩ ?_;rw[(bX h.pos).mpr z];exact((bX (r:=(0,1)) (by decide)).mpr Z).symm
theorem si(h:cy (bU tp ls w) (0,1)=true):eP tp ls w=(0,1):=by
 have h':(bU tp ls w).1*1<0*(bU tp ls w).2:=of_decide_eq_true h;unfold eP;rw[if_neg (by omega)]
theorem sg(hr:eh (bU tp ls w))(h:cy (bU tp ls w) (0,1)=false):eP tp ls w=bU tp ls w:=by
 have h':¬(bU tp ls w).1*1<0*(bU tp ls w).2:=of_decide_eq_false h;unfold eP
 split
 ·rfl
 ·rename_i c;exact(yB hr (by omega)).symm
theorem kX{ws:List Wk}(h:ws[i]?=some w):dS (ws.take (i+1)) tp ls=bj (dS (ws.take i) tp ls) (eP tp ls w):=by
 unfold dS;rw[KP,h,Ku];unfold cN;rw[NV];rfl
theorem tE(h:eh r):bj r (0,1)=r:=by
 refine dr (gB (LJ h.pos (by decide))) h ?_;rw[fY h.pos (by decide),(bX (r:=(0,1)) (by decide)).mpr Z];grind
def je(K:J5):Sp:=λvs H Q _=>∃(v:V) (d:Kv),vs=[v,.int 24]/\bS K H v d/\Q (.bl (jk d)) H
def mF(K:J5):Sp:=λvs H Q _=>∃(v:V) (d:Kv),vs=[v,.int 24]/\bS K H v d/\(Jd d).length≤24/\∀H',aC H H'->Q (.bl (Ee d)) H'
def jf(K:J5):Sp:=λvs H Q _=>∃(v u:V) (q:Addr) (w:Wk) (tp:R) (ls:List Nat),vs=[v,u,.ref q]/\qO K H v w/\kT w/\RV K H u tp/\iY tp/\bH K H q (aF ls)/\Fs K H Q (eP tp ls w)
theorem BC(srt:ls.Pairwise (· < ·))(lt:∀n∈ls,n<24):Ee (zP ls)=true:=by
 show((ls.map λn:Nat=>LS n).all jk&&tj ((ls.map λn:Nat=>LS n).map wO))=true;rw[rL,vG.mpr srt,NT,Mm];intro d hd;obtain⟨n,hn,rfl⟩:=Kc.mp hd;show(decide ((0:Int)≤(n:Int))&&decide ((n:Int)<24))=true;have:=lt n hn;rw[decide_eq_true (by omega),decide_eq_true (by omega)];rfl
structure DH(K:J5)(H:Hp)(v u:V)(pc:Addr)(ws:List Wk)(hn:Nat)(tp:R)(ls:List Nat):Prop where
 wv:iW K H v ws
 ok:∀w∈ws,kT w
 w9:ws.length≤9
 h9:hn≤9
 rv:RV K H u tp
 tp:iY tp
 hC:bH K H pc (aF ls)
 srt:ls.Pairwise (· < ·)
 lt:∀n∈ls,n<24
 l24:ls.length≤24
theorem DH.same{K:J5}{H H':Hp}{v u:V}{pc:Addr}{ws:List Wk}{hn:Nat}{tp:R}{ls:List Nat}(a:DH K H v u pc ws hn tp ls)(s:aC H H'):DH K H' v u pc ws hn tp ls:=⟨a.wv.mono (aT.same s),a.ok,a.w9,a.h9,a.rv.mono (aT.same s),a.tp,aT.same s _ _ a.hC,a.srt,a.lt,a.l24⟩
def mi(K:J5):Sp:=λvs H Q _=>∃(v u:V) (pc:Addr) (ws:List Wk) (hn:Nat) (tp:R) (ls:List Nat),vs=[v,.int hn,u,.ref pc]/\DH K H v u pc ws hn tp ls/\cy (c7 hn tp ls) (dS ws tp ls)=true/\∀H',aC H H'->Q (.bl true) H'
theorem lA:∀{a b:List Nat},a.Pairwise (· < ·)->b.Pairwise (· < ·)->(∀n,n∈a↔n∈b)->a=b
 | [],[],_,_,_=>rfl
 | [],y::b,_,_,h=>by have:=(h y).mpr Kf;cases this
 |x::a,[],_,_,h=>by have:=(h x).mp Kf;cases this
 |x::a,y::b,ha,hb,h=>by
  obtain⟨ax,ha'⟩:=Nd.mp ha;obtain⟨bx,hb'⟩:=Nd.mp hb;have e:x=y:=by
   rcases Kn.mp ((h x).mp Kf) with q|q
   ·exact q
   ·rcases Kn.mp ((h y).mpr Kf) with r|r
    ·exact r.symm
    ·have h1:=bx x q;have h2:=ax y r;omega
  subst e;rw[lA ha' hb' λn=>?_];constructor
  ·intro q;rcases Kn.mp ((h n).mp (Km _ q)) with r|r
   ·have:=ax n q;omega
   ·exact r
  ·intro q;rcases Kn.mp ((h n).mpr (Km _ q)) with r|r
   ·have:=bx n q;omega
   ·exact r
def gK(K:J5)(C:Addr):Sp:=λvs H Q _=>∃(p:iJ) (s:Ps) (d:Addr) (sl:Sl),vs=[.ref p.a,.ref d]/\fX K C H p s/\eC s/\Rd H d (.dK (b8 sl))/\sl.length≤60/\∀(l:Addr) (ob:LY) (H':Hp),(∀b o,b≠d->H b=some o->H' b=some o)->H' d=some (.frz ob (.dK (b8 sl)))->(∀o',H d=some (.frz o' (.dK (b8 sl)))->ob=o')->H l=none->H' l=some (.lst (aF (gN s.ws.length sl)))->Q (.ref l) H'
def jg(K:J5)(C:Addr):Sp:=λvs H Q _=>∃(p:iJ) (s:Ps),vs=[.ref p.a]/\fX K C H p s/\yk s/\∀s' sl d H',kI p H H'->fX K C H' p s'->qS s s'->uj s' sl->(∃ob,H' d=some (.frz ob (.dK (b8 sl))))->Q (.ref d) H'
def ji(K:J5)(C:Addr):Sp:=λvs H Q _=>∃(x dx a b:Addr) (v:V) (xs:List V) (ws:List Wk) (fr:List Nat) (r:R) (D:Nat),vs=[.ref x,.ref a,.ref b,v]/\H x=some (.ins C dx [])/\bH K H a xs/\cK (qO K H) xs ws/\yg ws/\b≠x/\aO K H b (aF fr)/\fr.length=24/\(∀f∈fr,f<2^40)/\RV K H v r/\0<r.2/\0<r.1/\r.1.natAbs<2^60/\0<D/\D<2^60/\84∣D/\r.2∣(D:Int)∧
 ∀(p:iJ) (B:Int) (H':Hp),(∀b o,b≠x->H b=some o->H' b=some o)->p.a=x->p.li=a->(∀q∈p.l,q≠x->H q=none)->0<B->B∣(D:Int)->r.2∣B->(∀w∈ws,w.2.2.2∣B)->fX K C H' p (yw ws fr B r)->Q .non H'
def cD(s:Ps)(i t:Nat):R:=aJ (s.ws.getD i cC).2.2 (dk (s.pf i t) (s.A.getD i 0))
def Js(K:J5)(H:Hp)(v:V)(rs:List R):Prop:=∃l ys,v=.ref l/\H l=some (.lst ys)/\cK (RV K H) ys rs
def gZ(K:J5)(C:Addr):Sp:=λvs H Q _=>∃(p:iJ) (s:Ps) (n:Nat),vs=[.ref p.a,.int (n:Nat)]/\fX K C H p s/\eC s/\n<s.ws.length/\(∀w∈s.ws,uk w)/\0<s.A.getD n 0/\(s.A.getD n 0).natAbs<2^200/\(∀t,t<24->(s.pf n t).natAbs<2^200)/\∀(l:Addr) (ys:List V) (H':Hp),aC H H'->H l=none->H' l=some (.lst ys)->cK (RV K H') ys ((J9 24).map (cD s n))->Q (.ref l) H'
theorem BD{a b c:Rat}(h:a<b)(h':b≤c):a<c:=by grind
def gj(s:Ps)(sl:Sl):List Nat:=(J9 24).filter λt=>decide (t∈gN s.ws.length sl)
theorem As{sl:Sl}(nd:(sl.map (·.1)).Nodup):(gN n sl).Nodup:=by
 unfold gN KU;rw[MU];refine(OP.filter _).imp_of_mem λ{i j} hi hj ne e=>ne ?_
 obtain⟨i1,i2⟩:=Kl.mp hi;obtain⟨j1,j2⟩:=Kl.mp hj;have il:=Kk.mp i1;have jl:=Kk.mp j1;have a:=of_decide_eq_true i2;have b:=of_decide_eq_true j2;rw[au _ (J6 il)] at a e;rw[au _ (J6 jl)] at b e;have q:sl[i].1=sl[j].1:=by omega
 exact(Na (i:=i) (j:=j) (h₀:=by rw[J7];exact il) (h₁:=by rw[J7];exact jl) nd).mp (by rw[Nb,Nb];exact q)
theorem A7{ns fd:List Nat}{ms:List Int}(nf:fd.Nodup)(sr:ns.Pairwise (· < ·))(sb:∀j∈fd,j∈ns)(hp:ms.Perm (fd.map λn:Nat=>(n:Int)))(hs:ms.Pairwise (·≤·)):ms.map V.int=aF (ns.filter λj=>decide (j∈fd)):=by
 have nc:(fd.map λn:Nat=>(n:Int)).Nodup:=by
  unfold KU;rw[MU];exact nf.imp λh z=>h (by omega)
 have nd:ms.Nodup:=hp.nodup_iff.mpr nc;have s1:ms.Pairwise (· < ·):=(hs.and nd).imp λ⟨a,b⟩=>Q1.mpr ⟨a,b⟩
 have s2:((ns.filter λj=>decide (j∈fd)).map λn:Nat=>(n:Int)).Pairwise (· < ·):=by
  rw[MU];exact(sr.filter _).imp λh=>Int.ofNat_lt.mpr h
 have e:ms=(ns.filter λj=>decide (j∈fd)).map λn:Nat=>(n:Int):=by
  refine g6 s1 s2 λz=>?_
  rw[hp.mem_iff];constructor
  ·intro h;obtain⟨j,hj,rfl⟩:=Kc.mp h;exact Kc.mpr ⟨j,Kl.mpr ⟨sb j hj,decide_eq_true hj⟩,Z⟩
  ·intro h;obtain⟨j,hj,rfl⟩:=Kc.mp h;exact Kc.mpr ⟨j,of_decide_eq_true (Kl.mp hj).2,Z⟩
 rw[e,gh]
structure Hf(ws:List Wk)(h:Nat)(tp:R)(D:Nat)(s:Ps)(sl:Sl)(B:Int):Prop where
 E:uj s sl
 L:Ds s tp B
 ew:s.ws=ws
 ef:s.fr=Ki 24 h
 Bd:B∣(D:Int)
 g:yg ws
section
variable {ws:List Wk}{h:Nat}{tp:R}{D:Nat}{s:Ps}{sl:Sl}{B:Int}
theorem Gs(X:Hf ws h tp D s sl B)(ht:t<24):decide (t∈gN s.ws.length sl)=tR s.net s.pf (λi=>0<s.net.rest s.pf i) t:=by
 unfold tR;rw[L1,decide_eq_true_iff,nF,ke];exact X.E.key _
theorem Dd(ht:iY tp)(ok:kT w):0≤val (eP tp ls w)/\val (bU tp ls w)≤val (eP tp ls w):=by
 have rb:=jt (ls:=ls) ht ok;have z:val ((0,1):R)=0:=(bX (r:=(0,1)) (by decide)).mpr Z
 cases c:cy (bU tp ls w) (0,1) with
 |true=>
  rw[si c,z];have:=(fZ rb.pos (by decide)).mp c;rw[z] at this;exact⟨MR,M7 this⟩
 |false=>
  rw[sg rb.red c];have:=(fL rb.pos (by decide)).mp c;rw[z] at this;exact⟨this,MR⟩
theorem vH(ht:iY tp)(ok:kT w):val (bU tp ls w)=val w.2.2-val tp*((bZ ls w:Nat):Rat):=by
 unfold bU;have tr:eh (aJ tp (((bZ ls w:Nat):Int),1)):=iQ ht.red (fo (i:=((bZ ls w:Nat):Int)) (n:=bZ ls w) (by omega)).red;rw[sQ ok.am.pos tr.pos,eD ht.pos (by show(0:Int)<1;decide),ma]
theorem uu(X:Hf ws h tp D s sl B)(ht:iY tp)(h9:h≤9)(ne:sl≠[]):cy (c7 h tp (gj s sl)) (dS ws tp (gj s sl))=true:=by
 have ok:∀w∈ws,kT w:=λw hw=>.of (X.g.gd w hw)
 have l6:=X.g.len;have l24:(gj s sl).length≤24:=by
  unfold gj;have:=Lm (λt=>decide (t∈gN s.ws.length sl)) (J9 24);rw[KB] at this;exact this
 have wb:=ie (ls:=gj s sl) ht ok (by omega);have rb:=mU (ls:=gj s sl) (hn:=h) ht h9 l24;refine(fZ rb.pos wb.pos).mpr ?_;obtain⟨i,hi,hr⟩:∃i,i<s.ws.length/\0<s.net.rest s.pf i:=by
  cases sl with
  |nil=>exact absurd Z ne
  |cons x t=>
   have rr:=(X.E.key x.1).mp Kf;have:∀v,iM s.net s.pf (λi=>0<s.net.rest s.pf i) v->∃i,i<s.ws.length/\0<s.net.rest s.pf i:=λv z=>by
    induction z with
    |st hi h=>exact⟨_,hi,h⟩
    |fw _ _ _ _ _ ih=>exact ih
    |bw _ _ _ _ ih=>exact ih
   exact this _ rr
 have ms:=wP X.E.F.fl (ow X.E.full) hi (show wR s.net s.pf (λi=>0<s.net.rest s.pf i) i=true from nF.mpr (.st hi hr)) hr;generalize hW:wR s.net s.pf (λi=>0<s.net.rest s.pf i)=W at ms;have eT:∀t,t<24->tR s.net s.pf (λi=>0<s.net.rest s.pf i) t=decide (t∈gN s.ws.length sl):=λt ht=>(Gs X ht).symm
 generalize tR s.net s.pf (λi=>0<s.net.rest s.pf i)=T at ms eT;have e1:sm (λt=>iB (T t) (s.net.fr t)) 24=((h*(gj s sl).length:Nat):Int):=by
  rw[bg (g:=λt=>(h:Int)*iB (decide (t∈gN s.ws.length sl)) 1) (λt ht=>by
   rw[eT t ht];have ef:s.net.fr t=h:=by
    show s.fr.getD t 0=h;rw[X.ef];exact au 0 (by rw[Mj,if_pos ht])
   rw[ef]
   cases decide (t∈gN s.ws.length sl) with
   |true=>exact(Sw _).symm
   |false=>exact(M6 _).symm),f7,jT]
  show(h:Int)*((gj s sl).length:Nat)=_;rw[NL]
 have eo:∀i,i<s.ws.length->sm (λt=>iB (s.net.win i t&&!T t) 1) 24=((bZ (gj s sl) (s.ws.getD i cC):Nat):Int):=λi hi=>by
  have gd:=ok (s.ws.getD i cC) (by rw[←X.ew];exact eZ hi);rw[bg (g:=λt=>iB (gL (s.ws.getD i cC) t&&!(gj s sl).contains t) 1) (λt ht=>by
   have:(gj s sl).contains t=T t:=by
    rw[eT t ht,L1,QH,decide_eq_true_iff];unfold gj;rw[Kl,decide_eq_true_iff,Kk];exact⟨λz=>z.2,λz=>⟨ht,z⟩⟩
   rw[this];rfl),yC gd.le gd.lt]
  rfl
 rw[e1,bg (g:=λi=>iB (W i) (s.A.getD i 0-s.M*((bZ (gj s sl) (s.ws.getD i cC):Nat):Int))) (λi hi=>by rw[eo i hi];rfl)] at ms;have ms':=L7.mpr ms;have sle:=lj (f:=λi=>iB (W i) (s.A.getD i 0-s.M*((bZ (gj s sl) (s.ws.getD i cC):Nat):Int))) (g:=λi=>val (eP tp (gj s sl) (s.ws.getD i cC))) (c:=(B:Rat)) (n:=s.ws.length) λi hi=>by
  have gd:=ok (s.ws.getD i cC) (by rw[←X.ew];exact eZ hi);obtain⟨n1,n2⟩:=Dd (ls:=gj s sl) ht gd;have b0:=gM X.L.b0
  cases W i with
  |false=>
   have:=Rat.mul_nonneg (M7 b0) n1;exact this
  |true=>
   show((s.A.getD i 0-s.M*((bZ (gj s sl) (s.ws.getD i cC):Nat):Int):Int):Rat)≤_;rw[SH,KL,X.L.A i hi,X.L.M,Mu];have q:=LP n2 (M7 b0);rw[vH ht gd] at q;grind
 have ew:val (dS ws tp (gj s sl))=((J9 s.ws.length).map λi=>val (eP tp (gj s sl) (s.ws.getD i cC))).sum:=by
  unfold dS;obtain⟨_,y⟩:=dC (rs:=ws.map (eP tp (gj s sl))) (λr hr=>by
   obtain⟨w,hw,rfl⟩:=Kc.mp hr;exact(qH ht (ok w hw)).red) dA
  have z:val ((0,1):R)=0:=(bX (r:=(0,1)) (by decide)).mpr Z;rw[z,KY] at y;have e:=cP cC (λw:Wk=>val (eP tp (gj s sl) w)) ws;rw[ix] at e;show val ((ws.map (eP tp (gj s sl))).foldl bj (0,1))=_;rw[y,X.ew,e];show 0+(ws.map λw=>val (eP tp (gj s sl) w)).sum=_;grind
 have er:val (c7 h tp (gj s sl))=val tp*((h*(gj s sl).length:Nat):Rat):=by
  unfold c7;rw[eD ht.pos (by show(0:Int)<1;decide),ma]
 rw[er,ew,←hU (gM X.L.b0)];have em:((s.M*((h*(gj s sl).length:Nat):Int):Int):Rat)=(B:Rat)*(val tp*((h*(gj s sl).length:Nat):Rat)):=by
  rw[KL,X.L.M,Mu];grind
 have ms2:((s.M*((h*(gj s sl).length:Nat):Int):Int):Rat)<_:=ms';rw[em] at ms2;exact BD ms2 sle
end
theorem pM(h:0<r.2):0≤val r↔0≤r.1:=by
 have zz:val ((0,1):R)=0:=(bX (r:=(0,1)) (by decide)).mpr Z;rw[←zz,←fL (r:=r) (q:=(0,1)) h (by decide),wY];show 0*r.2≤r.1*1↔_;omega
abbrev Pc:=Nat×R
def Do(K:J5)(H:Hp)(v:V)(c:Pc):Prop:=∃p x,v=.ref p/\bH K H p [.int (c.1:Nat),x]/\RV K H x c.2
theorem Do.mono{K:J5}{H H':Hp}{v:V}{c:Pc}(h:Do K H v c)(t:aT K H H'):Do K H' v c:=let ⟨p,x,e,s,r⟩:=h;⟨p,x,e,t _ _ s,r.mono t⟩
def AW(K:J5)(H:Hp)(v:V)(q:List Pc):Prop:=∃p xs,v=.ref p/\bH K H p xs/\cK (Do K H) xs q
theorem AW.mono{K:J5}{H H':Hp}{v:V}{q:List Pc}(h:AW K H v q)(t:aT K H H'):AW K H' v q:=let ⟨p,x,e,s,r⟩:=h;⟨p,x,e,t _ _ s,r.mono λ_ _ z=>z.mono t⟩
def HS(c:Pc):Kv:=.tuple [.int (c.1:Nat),dR c.2]
def HR(q:List Pc):Kv:=.tuple (q.map HS)
def GD(ps:List (List Pc)):Kv:=.tuple (ps.map HR)
theorem Do.deep{K:J5}{H:Hp}{v:V}{c:Pc}(h:Do K H v c):bS K H v (HS c):=by
 obtain⟨p,x,rfl,hS,hx⟩:=h;exact .tup hS (.cons (.int _) (.cons hx.deep .nil))
theorem AW.deep{K:J5}{H:Hp}{v:V}{q:List Pc}(h:AW K H v q):bS K H v (HR q):=by
 obtain⟨p,xs,rfl,hS,al⟩:=h;exact .tup hS (al.deep λ_ _ z=>z.deep)
def DD(K:J5)(H:Hp)(v:V)(pl:List (List Pc)):Prop:=∃p xs,v=.ref p/\bH K H p xs/\cK (AW K H) xs pl
structure Dy(r:R):Prop where
 bq:Bq 279826853195846425060726789948611029097316354959409733296838400000 256 r
 nn:0≤r.1
theorem Dy.red(h:Dy r):eh r:=h.bq.red
theorem Dy.wf(h:Dy r):Wf 240 r:=h.bq.wf (by decide) (by decide) (by decide)
structure Al(ws:List Wk):Prop where
 few:ws.length≤20
 wk:∀w∈ws,uk w
theorem Al.of(g:yg ws):Al ws:=⟨by have:=g.len;omega,g.gd⟩
def eI(ps:List Pc)(j:Nat):List R:=(ps.filter λc=>decide (c.1=j)).map (·.2)
theorem zy:eI (ps++[c]) c.1=eI ps c.1++[c.2]:=by
 unfold eI;rw[Lv,Lc (p:=λd:Pc=>decide (d.1=c.1)) (decide_eq_true Z),Mh,Ku];rfl
theorem Cg(h:c.1≠j):eI (ps++[c]) j=eI ps j:=by
 unfold eI;rw[Lv,K4 (p:=λd:Pc=>decide (d.1=j)) (by rw[decide_eq_false h];decide),Mh,LF]
structure Dn(ws:List Wk)(pl:List (List Pc)):Prop where
 len:pl.length=24
 few:∀q∈pl,q.length≤20
 row:∀(u:Nat) (q:List Pc),pl[u]?=some q->(q.map (·.1)).Nodup/\∀c∈q,c.1<ws.length/\(ws.getD c.1 cC).1≤u/\u≤(ws.getD c.1 cC).2.1/\Dy c.2/\0<val c.2
 fin:∀j,j<ws.length->cN (eI pl.flatten j)=(ws.getD j cC).2.2
theorem z9{r:R}{B z:Int}(hr:eh r)(e:val r*(B:Rat)=(z:Rat)):r.2∣B:=by
 have n2:=cw hr.pos;unfold val at e;have e2:((r.1*B:Int):Rat)=((z*r.2:Int):Rat):=by
  rw[KL,KL,←e];generalize ((r.1:Int):Rat)=x at *;generalize ((r.2:Int):Rat)=y at *;grind
 have e3:r.1*B=z*r.2:=Oh.mp e2;have d:r.2∣r.1*B:=⟨z,by rw[e3,MK]⟩;have d':r.2.natAbs∣r.1.natAbs*B.natAbs:=by rw[←Ms];exact Ng.mpr d
 have cp:Nat.Coprime r.2.natAbs r.1.natAbs:=by
  have:=hr.cop;rw[ML] at this;exact this
 exact Ng.mp (cp.dvd_of_dvd_mul_left d')
section
variable {ws:List Wk}{h:Nat}{tp:R}{D:Nat}{s:Ps}{sl:Sl}{B:Int}
theorem gH(X:Hf ws h tp D s sl B)(hi:i<s.ws.length)(t:Nat):eh (cD s i t)/\val (cD s i t)*(B:Rat)=((s.pf i t:Int):Rat):=by
 have gd:=X.g.gd (s.ws.getD i cC) (by rw[←X.ew];exact eZ hi);have a0:0<s.A.getD i 0:=X.E.F.am i hi;have r1:=gd.2.2.1.red;have r2:eh (dk (s.pf i t) (s.A.getD i 0)):=gB a0;refine⟨iQ r1 r2,?_⟩;unfold cD;rw[eD r1.pos r2.pos,iO a0,X.L.A i hi];have b0:=gM X.L.b0;have v0:=qC gd;generalize (B:Rat)=b at *;generalize val (s.ws.getD i cC).2.2=a at *;generalize ((s.pf i t:Int):Rat)=z;have n1:b≠0:=by grind
 have n2:a≠0:=by grind
 grind
theorem yb(X:Hf ws h tp D s sl B)(tq:iY tp)(dd:D∣279826853195846425060726789948611029097316354959409733296838400000)(hi:i<s.ws.length)(ht:t<24):Dy (cD s i t)/\val (cD s i t)≤val tp/\0≤val (cD s i t):=by
 obtain⟨rd,e⟩:=gH X hi t;have b0:=gM X.L.b0;have lo:0≤s.pf i t:=X.E.F.fl.lo i t hi ht;have hi':s.pf i t≤s.M:=X.E.F.fl.hi i t hi ht;have lo':(0:Rat)≤((s.pf i t:Int):Rat):=by
  have:=NI.mpr lo;exact this
 have hi2:=NI.mpr hi';rw[X.L.M] at hi2;have nn:0≤val (cD s i t):=by
  apply KC;intro z;have:=Lx (ON.mp z) b0;grind
 have le:val (cD s i t)≤val tp:=by
  apply KC;intro z;have:=Lx (ON.mp z) b0;grind
 have n1:=(pM rd.pos).mp nn;refine⟨⟨⟨rd.pos,rd.cop,?_,?_⟩,n1⟩,le,nn⟩
 ·exact NU (z9 rd e) (NU X.Bd (LZ.mpr dd))
 ·have tb:=tq.le;have t2:=tq.pos;have le2:(cD s i t).1*tp.2≤tp.1*(cD s i t).2:=by
   have q:=(fL (r:=tp) (q:=cD s i t) t2 rd.pos).mpr le;have:=of_decide_eq_false q;omega
  have tt:tp.1≤216*tp.2:=by omega
  have:=Int.mul_le_mul_of_nonneg_right tt (Lw rd.pos);have q2:(cD s i t).1*tp.2≤(216*(cD s i t).2)*tp.2:=by
   refine OF le2 (OF this (Int.le_of_eq ?_));rw[PV,PV,MK tp.2]
  have q3:=Int.le_of_mul_le_mul_right q2 t2;have:=rd.pos;omega
def yx(s:Ps):List (List Pc):=(J9 24).map λt=>((J9 s.ws.length).filter λi=>decide (cD s i t≠(0,1))).map λi=>(i,cD s i t)
theorem pE(X:Hf ws h tp D s sl B)(hi:i<s.ws.length):cD s i t=(0,1)↔s.pf i t=0:=by
 obtain⟨rd,e⟩:=gH X hi t;have b0:=gM X.L.b0;have z:val ((0,1):R)=0:=(bX (r:=(0,1)) (by decide)).mpr Z;constructor
 ·intro q;rw[q,z,OG] at e;have:((0:Int):Rat)=((s.pf i t:Int):Rat):=e;exact(Oh.mp this).symm
 ·intro q;refine dr rd dA ?_;rw[z];rw[q] at e;have e':val (cD s i t)*(B:Rat)=0:=e;generalize (B:Rat)=b at *;have:b≠0:=by grind
  grind
theorem f6{f:Nat->Rat}{p:Nat->Bool}:∀{l:List Nat},(∀i∈l,p i=false->f i=0)->((l.filter p).map f).sum=(l.map f).sum
 | [],_=>rfl
 |i::l,h=>by
  have ih:=f6 (f:=f) (p:=p) (l:=l) λj hj=>h j (Km _ hj)
  rw[KH,Mo]
  cases c:p i with
  |true=>rw[Lc c,KH,Mo,ih]
  |false=>
   rw[K4 (by rw[c];exact Kj),ih,h i Kf c];grind
theorem pV{f:Nat->Int}{g:Nat->Rat}{c:Rat}:∀{n:Nat},(∀i,i<n->g i*c=(f i:Rat))->((J9 n).map g).sum*c=((sm f n:Int):Rat)
 |0,_=>by
  show(0:Rat)*c=((0:Int):Rat);rw[OG];rfl
 |n+1,h=>by
  have ih:=pV (f:=f) (g:=g) (n:=n) λi hi=>h i (by omega)
  have e:=h n (by omega);show _=((sm _ n+f n:Int):Rat);rw[Oi,LU,Ku,jN,←ih,←e,KH,OE,Mo,O9];grind
theorem lB{j:Nat}:∀{n:Nat},j<n->∀p:Nat->Bool,(J9 n).filter (λa=>decide (a=j)&&p a)=if p j=true then [j] else []
 |0,h,_=>by omega
 |n+1,h,p=>by
  rw[LU,Lv];by_cases c:j=n
  ·subst c;have e:(J9 j).filter (λa=>decide (a=j)&&p a)=[]:=L8.mpr λa ha z=>by
    have:=Kk.mp ha;rw[LG,decide_eq_true_iff] at z;omega
   rw[e,O0]
   cases d:p j with
   |true=>rw[if_pos Z,Lc (by rw[decide_eq_true Z,d];rfl),Mh]
   |false=>rw[if_neg Kj,K4 (by rw[d,N7];exact Kj),Mh]
  ·rw[lB (by omega) p,K4 (by rw[decide_eq_false (M5 c),NY];exact Kj),Mh,LF]
theorem oE(s:Ps){j:Nat}(hj:j<s.ws.length):∀ts:List Nat,eI (ts.map λt=>((J9 s.ws.length).filter λi=>decide (cD s i t≠(0,1))).map λi=>((i,cD s i t):Pc)).flatten j=(ts.filter λt=>decide (cD s j t≠(0,1))).map λt=>cD s j t
 | []=>rfl
 |t::ts=>by
  have ih:=oE s hj ts;unfold eI at ih ⊢;rw[KH,Sb,Lv,Ku,ih];have e:((((J9 s.ws.length).filter λi=>decide (cD s i t≠(0,1))).map λi=>((i,cD s i t):Pc)).filter λc=>decide (c.1=j)).map (·.2)=if cD s j t≠(0,1) then [cD s j t] else []:=by
   rw[Oj,KY,Pu];have e1:(J9 s.ws.length).filter (λa=>((λc:Pc=>decide (c.1=j))∘λi=>((i,cD s i t):Pc)) a&&decide (cD s a t≠(0,1)))=if cD s j t≠(0,1) then [j] else []:=by
    have e2:=lB hj λa=>decide (cD s a t≠(0,1))
    rw[show(λa=>((λc:Pc=>decide (c.1=j))∘λi=>((i,cD s i t):Pc)) a&&decide (cD s a t≠(0,1)))=λa=>decide (a=j)&&decide (cD s a t≠(0,1)) from Z,e2];by_cases c:cD s j t≠(0,1)
    ·rw[if_pos c,if_pos (decide_eq_true c)]
    ·rw[if_neg c,if_neg (by rw[decide_eq_false c];exact Kj)]
   rw[e1]
   split<;>rfl
  rw[e];by_cases c:cD s j t≠(0,1)
  ·rw[if_pos c,Lc (p:=λt=>decide (cD s j t≠(0,1))) (decide_eq_true c),KH];rfl
  ·rw[if_neg c,K4 (p:=λt=>decide (cD s j t≠(0,1))) (by rw[decide_eq_false c];exact Kj)];rfl
theorem Eu(X:Hf ws h tp D s sl B)(tq:iY tp)(dd:D∣279826853195846425060726789948611029097316354959409733296838400000)(e:sl=[]):Dn ws (yx s):=by
 have full:=lD X.E e;have l6:=X.g.len;have ew:=X.ew;refine⟨by unfold yx;rw[J7,KB],λq hq=>?_,λu q hq=>?_,λj hj=>?_⟩
 ·obtain⟨t,_,rfl⟩:=Kc.mp hq;rw[J7];have:=Lm (λi=>decide (cD s i t≠(0,1))) (J9 s.ws.length);rw[KB] at this;have lw:s.ws.length=ws.length:=by rw[ew]
  omega
 ·unfold yx at hq;rw[Kt] at hq;obtain⟨t,ht,rfl⟩:=LR.mp hq;obtain⟨hl,rfl⟩:=Kg.mp ht;rw[KB] at hl;rw[Pm];refine⟨?_,λc hc=>?_⟩
  ·rw[KY,show((λx:Pc=>x.1)∘λi=>((i,cD s i u):Pc))=id from Z,PF];exact OP.filter _
  ·obtain⟨i,hi,rfl⟩:=Kc.mp hc;obtain⟨i1,i2⟩:=Kl.mp hi;have il:=Kk.mp i1;have nz:=of_decide_eq_true i2;obtain⟨am,_,nn⟩:=yb X tq dd il hl;have pz:s.pf i u≠0:=λz=>nz ((pE X il).mpr z)
   have w:gL (s.ws.getD i cC) u=true:=by
    cases c:gL (s.ws.getD i cC) u with
    |true=>rfl
    |false=>exact absurd (X.E.F.fl.out i u il hl c) pz
   rw[ew] at w;obtain⟨w1,w2⟩:=dz.mp w;refine⟨by rw[←ew];exact il,w1,w2,am,?_⟩;show 0<val (cD s i u);apply KC;intro z;have z0:val (cD s i u)=0:=O1 (Oq.mp z) nn;have zz:val ((0,1):R)=0:=(bX (r:=(0,1)) (by decide)).mpr Z;exact nz (dr am.red dA (by rw[z0,zz]))
 ·have hj':j<s.ws.length:=by rw[ew];exact hj
  rw[show eI (yx s).flatten j=_ from oE s hj' (J9 24)];have gd:=X.g.gd (s.ws.getD j cC) (by rw[←X.ew];exact eZ hj');obtain⟨x,y⟩:=dC (rs:=((J9 24).filter λt=>decide (cD s j t≠(0,1))).map λt=>cD s j t) (λr hr=>by
   obtain⟨t,_,rfl⟩:=Kc.mp hr;exact(gH X hj' t).1) dA
  have zz:val ((0,1):R)=0:=(bX (r:=(0,1)) (by decide)).mpr Z;rw[←ew];refine dr x gd.2.2.1.red ?_;show val ((((J9 24).filter λt=>decide (cD s j t≠(0,1))).map λt=>cD s j t).foldl bj (0,1))=_;rw[y,zz,KY];have sf:=f6 (f:=λt=>val (cD s j t)) (p:=λt=>decide (cD s j t≠(0,1))) (l:=J9 24) λt _ c=>by
   have:cD s j t=(0,1):=Sc.mp (of_decide_eq_false c);show val (cD s j t)=0;rw[this,zz]
  have ss:=pV (f:=s.pf j) (g:=λt=>val (cD s j t)) (c:=(B:Rat)) (n:=24) λt _=>(gH X hj' t).2
  have fr:=full j hj';unfold eX.rest at fr;have eA:sm (s.pf j) 24=s.A.getD j 0:=by
   have:s.net.A j=s.A.getD j 0:=Z;omega
  rw[eA,X.L.A j hj',←sf] at ss;have b0:=gM X.L.b0;show 0+(((J9 24).filter λt=>decide (cD s j t≠(0,1))).map λt=>val (cD s j t)).sum=_;generalize (((J9 24).filter λt=>decide (cD s j t≠(0,1))).map λt=>val (cD s j t)).sum=a at ss;generalize val (s.ws.getD j cC).2.2=c at ss;generalize (B:Rat)=b at *;have:b≠0:=by grind
  grind
theorem B1(X:Hf ws h tp D s sl B)(ht:t<24):val (cN ((((J9 s.ws.length).filter λi=>decide (cD s i t≠(0,1))).map λi=>((i,cD s i t):Pc)).map (·.2)))≤val tp*((h:Nat):Rat):=by
 obtain⟨x,y⟩:=dC (rs:=(((J9 s.ws.length).filter λi=>decide (cD s i t≠(0,1))).map λi=>((i,cD s i t):Pc)).map (·.2)) (λr hr=>by
  obtain⟨c,hc,rfl⟩:=Kc.mp hr;obtain⟨i,hi,rfl⟩:=Kc.mp hc;exact(gH X (Kk.mp (Kl.mp hi).1) t).1) dA
 have zz:val ((0,1):R)=0:=(bX (r:=(0,1)) (by decide)).mpr Z;show val ((((((J9 s.ws.length).filter λi=>decide (cD s i t≠(0,1))).map λi=>((i,cD s i t):Pc)).map (·.2))).foldl bj (0,1))≤_;rw[y,zz,KY,KY];have sf:=f6 (f:=λi=>val (cD s i t)) (p:=λi=>decide (cD s i t≠(0,1))) (l:=J9 s.ws.length) λi _ c=>by
  have:cD s i t=(0,1):=Sc.mp (of_decide_eq_false c);show val (cD s i t)=0;rw[this,zz]
 have ss:=pV (f:=λi=>s.pf i t) (g:=λi=>val (cD s i t)) (c:=(B:Rat)) (n:=s.ws.length) λi hi=>(gH X hi t).2
 rw[←sf] at ss;have rm:=X.E.F.fl.rm t ht;unfold eX.room at rm;have ef:s.net.fr t=h:=by
  show s.fr.getD t 0=h;rw[X.ef];exact au 0 (by rw[Mj,if_pos ht])
 rw[ef] at rm;have le:sm (λi=>s.pf i t) s.ws.length≤s.M*(h:Int):=by
  have e1:s.net.M=s.M:=Z;have e2:s.net.n=s.ws.length:=Z;rw[e1,e2] at rm;omega
 have le':=NI.mpr le;rw[←ss,KL,X.L.M,Mu] at le';have b0:=gM X.L.b0;show 0+(((J9 s.ws.length).filter λi=>decide (cD s i t≠(0,1))).map λi=>val (cD s i t)).sum≤_;generalize (((J9 s.ws.length).filter λi=>decide (cD s i t≠(0,1))).map λi=>val (cD s i t)).sum=a at le';have q:(B:Rat)*a≤(B:Rat)*(val tp*((h:Nat):Rat)):=by grind
 have:=(kd b0).mp q;grind
end
def zg(Rs:List (List R)):List (List Pc):=(J9 24).map λt=>((J9 Rs.length).filter λi=>decide ((Rs.getD i []).getD t (0,1)≠(0,1))).map λi=>(i,(Rs.getD i []).getD t (0,1))
theorem zf(s:Ps):zg ((J9 s.ws.length).map λi=>(J9 24).map (cD s i))=yx s:=by
 unfold zg yx;refine Nx λt ht=>?_
 have ht:=Kk.mp ht;rw[J7,KB];have e:∀i,i<s.ws.length->(((J9 s.ws.length).map λi=>(J9 24).map (cD s i)).getD i []).getD t (0,1)=cD s i t:=λi hi=>by
  rw[au [] (by rw[Kt,Mb hi];rfl)];exact au (0,1) (by rw[Kt,Mb ht];rfl)
 have ef:(J9 s.ws.length).filter (λi=>decide ((((J9 s.ws.length).map λi=>(J9 24).map (cD s i)).getD i []).getD t (0,1)≠(0,1)))=(J9 s.ws.length).filter λi=>decide (cD s i t≠(0,1)):=MT λi hi=>by rw[e i (Kk.mp hi)]
 rw[ef];refine Nx λi hi=>?_
 rw[e i (Kk.mp (Kl.mp hi).1)]
def pU(K:J5):Sp:=λvs H Q _=>∃(a:Addr) (xs:List V) (Rs:List (List R)),vs=[.ref a]/\aO K H a xs/\cK (Js K H) xs Rs/\Rs.length≤20/\(∀rs∈Rs,rs.length=24)/\∀(v':V) (H':Hp),aC H H'->DD K H' v' (zg Rs)->Q v' H'
def mG(K:J5):Sp:=λvs H Q _=>∃(v u:V) (h:Nat) (ws:List Wk) (tp:R) (D:Nat),vs=[v,.int (h:Nat),u]/\iW K H v ws/\yg ws/\1≤h/\h≤20/\RV K H u tp/\Wf 60 tp/\0<tp.1/\0<D/\D<2^60/\84∣D/\tp.2∣(D:Int)∧
 (∀(s:Ps) (sl:Sl) (B:Int) (q pt:Addr) (H':Hp),aC H H'->Hf ws h tp D s sl B->sl≠[]->bH K H' q [.str "much",.ref pt]->bH K H' pt (aF (gj s sl))->Q (.ref q) H')∧
 (∀(s:Ps) (sl:Sl) (B:Int) (q:Addr) (x:V) (H':Hp),aC H H'->Hf ws h tp D s sl B->sl=[]->bH K H' q [.str "fits",x]->DD K H' x (yx s)->Q (.ref q) H')
theorem xD(F:kU ws (J9 ws.length) fr r U)(g:yg ws)(f24:fr.length=24):∃b:Nat,0<b/\b≤144/\Bq (84*b) 72 r/\0<r.1:=by
 obtain⟨S,b0,e⟩:=F.atn;have gl:(gW ws ((J9 ws.length).filter S)).length≤6:=by
  rw[nC];have:=Lm S (J9 ws.length);rw[KB] at this;have:=g.len;omega
 have gd:∀w∈gW ws ((J9 ws.length).filter S),uk w:=λw hw=>by
  obtain⟨i,hi,rfl⟩:=Kc.mp hw;exact g.gd _ (eZ (Kk.mp (Kl.mp hi).1))
 have b144:=xW (ws:=gW ws ((J9 ws.length).filter S)) f24 gl;have ne:gW ws ((J9 ws.length).filter S)≠[]:=λz=>by
  rw[z,nH f24] at b0;omega
 obtain⟨p1,p2,p3⟩:=rH f24 gd gl b0 ne;have er:r=cq (gW ws ((J9 ws.length).filter S)) fr:=by
  refine dr F.rd p1.red ?_;rw[←p3] at e;have b':(0:Rat)<((bP (gW ws ((J9 ws.length).filter S)) fr:Nat):Rat):=M0.mpr b0;generalize ((bP (gW ws ((J9 ws.length).filter S)) fr:Nat):Rat)=y at b' e;generalize val (cq (gW ws ((J9 ws.length).filter S)) fr)=a at e;generalize val r=c at e;have:y≠0:=by grind
  grind
 rw[er];exact⟨_,b0,b144,p1,p2⟩
theorem E2:∀b:Nat,b<145->0<b->33312720618553145840562713089120360606823375590405920630576000%b=0:=by decide +kernel
structure yh(tp:R):Prop where
 tq:iY tp
 w60:Wf 60 tp
 t0:0<tp.1
 ex:∃D:Nat,0<D/\D<2^60/\84∣D/\tp.2∣(D:Int)/\D∣279826853195846425060726789948611029097316354959409733296838400000
theorem ur(b0:0<b)(b144:b≤144)(h:Bq (8400*b) 216 tp)(t0:0<tp.1):yh tp:=by
 have d:8400*b∣279826853195846425060726789948611029097316354959409733296838400000:=by
  obtain⟨q,hq⟩:=Nat.dvd_of_mod_eq_zero (E2 b (by omega) b0);exact⟨q,by rw[Rh,←hq]⟩
 exact⟨h.mono d (Kb _),h.wf (by omega) (by omega) (by omega),t0,8400*b,by omega,by omega,⟨100*b,by omega⟩,h.dvd,d⟩
theorem ut(a1:1≤a)(a9:a≤9)(b1:1≤b)(b3:b≤3):yh (dk a b):=by
 refine ur (b:=1) (by decide) (by decide) ?_ (nh (by omega) (by omega));rcases(show b=1∨b=2∨b=3 by omega) with rfl|rfl|rfl <;>
 rcases(show a=1∨a=2∨a=3∨a=4∨a=5∨a=6∨a=7∨a=8∨a=9 by omega) with rfl|rfl|rfl|rfl|rfl|rfl|rfl|rfl|rfl <;>
 exact⟨by decide,by decide,by decide,by decide⟩
theorem sS(hr:eh r)(hq:eh q)(r0:0<r.1)(q0:0<q.1):0<(aJ r q).1:=by
 unfold aJ;exact nh (LJ r0 q0) (LJ hr.pos hq.pos)
theorem sR(b0:0<b)(b144:b≤144)(h:Bq (84*b) 72 r)(r0:0<r.1)(hq:Bq 100 3 q)(q0:0<q.1):yh (aJ r q):=by
 refine ur b0 b144 ((h.times hq).mono ⟨1,by omega⟩ (by decide)) (sS h.red hq.red r0 q0)
theorem wU(h:eh r):dk r.1 r.2=r:=dG h.pos h.pos h.cop Z
def mC(K:J5):Sp:=λvs H Q _=>∃(v w:V) (r q:R) (n m:Nat),vs=[v,w]/\RV K H v r/\RV K H w q/\Wf n r/\Wf m q/\n+m+1≤3000/\kO H Q (eL r q)
abbrev jP:=jS
theorem EN(hs:Wf n s)(hx:Wf n x):Wf n (fF s x):=by
 unfold fF
 split
 ·exact hx
 ·exact hs
def nZ(K:J5):Sp:=λvs H Q _=>∃(a:Addr) (xs:List V) (rs:List R),vs=[.ref a]/\bH K H a xs/\cK (RV K H) xs rs/\(∀r∈rs,Wf 60 r)/\rs.length≤20/\∀(v':V) (H':Hp),aC H H'->RV K H' v' (rs.foldl fF (0,1))->Wf 60 (rs.foldl fF (0,1))->Q v' H'
theorem aT.steps{K:J5}{t:Addr}{H H':Hp}{xs:List V}(h:H t=some (.lst xs))(k:∀b o,b≠t->H b=some o->H' b=some o)(h':∃ys,H' t=some (.lst ys)):aT K H H':=aT.step ⟨k,⟨xs,h⟩,h'⟩
theorem yQ(h:eh r)(nn:0≤r.1)(nz:r≠(0,1)):1≤r.1:=by
 by_cases z:r.1=0
 ·exfalso;apply nz;have g:=h.cop;have p:=h.pos;rw[z,Int.gcd_zero_left] at g;exact TB z (by show r.2=1;omega)
 ·omega
theorem qF{X:Cx}{K:J5}(hK:X.K=K):cM X (.builtin "isinstance") (AJ K):=hK▸dq
def ig(K:J5):Sp:=λvs H Q _=>∃(v u:V) (ws:List Wk) (pl:List (List Pc)),vs=[v,u]/\iW K H v ws/\Al ws/\DD K H u pl/\Dn ws pl/\∀H',aC H H'->Q (.bl true) H'
def dg(n:Nat)(ps:List Pc):List R:=(J9 n).map λj=>cN (eI ps j)
theorem iA(ps:List Pc)(h:j<n):(dg n ps)[j]?=some (cN (eI ps j)):=by
 unfold dg;rw[Kt,Mb h];rfl
theorem xM:(dg n ps).set c.1 (bj (cN (eI ps c.1)) c.2)=dg n (ps++[c]):=by
 refine Sd λi=>?_
 by_cases hi:i<n
 ·by_cases e:c.1=i
  ·subst e;rw[L3 (by unfold dg;rw[J7,KB];exact hi),iA _ hi,zy,uC]
  ·rw[LO e,iA _ hi,iA _ hi,Cg e]
 ·rw[MA (by unfold dg;rw[Mw,J7,KB];omega),MA (by unfold dg;rw[J7,KB];omega)]
theorem xN(n:Nat):dg n []=Ki n (0,1):=by
 unfold dg;exact List.eq_replicate_iff.mpr ⟨by simp,λb hb=>by obtain⟨x,_,rfl⟩:=Kc.mp hb;rfl⟩
theorem w9(h:Bq 279826853195846425060726789948611029097316354959409733296838400000 131072 r):Wf 240 r:=h.wf (by decide) (by decide) (by decide)
theorem Cf(h:∀c∈ps,Dy c.2)(l:ps.length≤480):Wf 240 (cN (eI ps j)):=by
 refine w9 ((gu (N:=256) (by decide) λr hr=>?_).mono (MN _) ?_)
 ·obtain⟨c,hc,rfl⟩:=Kc.mp hr;exact(h c (Kl.mp hc).1).bq
 ·unfold eI;rw[J7];have:=Lm (λc:Pc=>decide (c.1=j)) ps;omega
theorem tX{pl:List (List Pc)}(h:pl[u]?=some q):(pl.take (u+1)).flatten=(pl.take u).flatten++q:=by
 rw[KP,h,List.flatten_append];simp
theorem xC{pl:List (List Pc)}(few:∀q∈pl,q.length≤20):pl.flatten.length≤20*pl.length:=by
 induction pl with
 |nil=>exact Kb _
 |cons q l ih=>
  rw[Sb,Ko,Lb];have:=few q Kf;have:=ih λx hx=>few x (Km _ hx)
  omega
theorem Ac{q:List Pc}(nd:(q.map (·.1)).Nodup)(i:Int):((q.map λd=>((d.1:Nat):Int)).count i)≤1:=by
 have e:(q.map λd=>((d.1:Nat):Int))=(q.map (·.1)).map λn:Nat=>(n:Int):=by rw[KY];rfl
 rw[e];refine List.nodup_iff_count.mp ?_ i;unfold KU at nd ⊢;rw[MU];exact nd.imp λ{a b} n z=>n (by omega)
theorem xc(rs:List R):(OW (rs.map dR)).canLay0=true:=gC λd hd=>by
 obtain⟨c,_,rfl⟩:=Kc.mp hd;rfl
theorem Da(rs:List R):(OW (rs.map dR)).depth≤32:=by
 show Ol (rs.map dR)+1≤32;have:=fe (k:=1) (ds:=rs.map dR) λd hd=>by
  obtain⟨x,hx,rfl⟩:=Kc.mp hd;exact Kb 1
 omega
theorem sy:∀{ys:List V} {ns:List Int},cK (λv (b:Int)=>v=.int b) ys ns->ys=ns.map V.int
 |_,_,.nil=>rfl
 |_,_,.cons h t=>by rw[h,sy t];rfl
theorem yc:∀{ys:List V} {bs:List Bool},cK (λv (b:Bool)=>v=.bl b) ys bs->ys=bs.map V.bl
 |_,_,.nil=>rfl
 |_,_,.cons h t=>by rw[h,yc t];rfl
theorem oY:∀rs:List R,PZ (rs.map dR) (rs.map dR)=true
 | []=>rfl
 |r::rs=>by
  show(LD (dR r) (dR r)&&PZ (rs.map dR) (rs.map dR))=true;rw[oY rs,iz,decide_eq_true Z];rfl
def oI(ls:List Nat):Kv:=.list (ls.map λn:Nat=>LS n)
theorem oX:∀{a b:List Nat},LD (oI a) (oI b)=decide (a=b)
 | [],[]=>rfl
 | [],_::_=>rfl
 |_::_,[]=>rfl
 |x::a,y::b=>by
  have ih:PZ (a.map λn:Nat=>LS n) (b.map λn:Nat=>LS n)=decide (a=b):=oX (a:=a) (b:=b);show(((x:Nat):Int)==((y:Nat):Int)&&PZ (a.map λn:Nat=>LS n) (b.map λn:Nat=>LS n))=_;rw[ih];by_cases e:x=y
  ·subst e;simp
  ·have e':¬((x:Nat):Int)=((y:Nat):Int):=by omega
   simp[e,e']
theorem lO{K:J5}{H:Hp}{p:Addr}{ls:List Nat}(h:aO K H p (aF ls)):bS K H (.ref p) (oI ls):=by
 refine .lst h ?_;clear h;unfold aF
 induction ls with
 |nil=>exact .nil
 |cons x r ih=>exact .cons (.int _) ih
theorem kb(ls:List Nat):(oI ls).canLay0=true/\(oI ls).depth≤32:=by
 unfold oI;constructor
 ·induction ls with
  |nil=>rfl
  |cons x r ih=>exact ih
 ·refine K5 (m:=1) ?_ (by decide)
  induction ls with
  |nil=>decide
  |cons x r ih=>simpa [Kv.depth,Ol] using ih
theorem zM{ls:List Nat}{ms:List Int}(h1:∀n∈ls,n<24)(hp:ms.Perm (bC (ls.map λn:Nat=>(n:Int))))(hs:ms.Pairwise (·≤·)) :
  ∃zs:List Nat,ms.map V.int=aF zs/\zs.Pairwise (· < ·)/\∀n,n∈zs↔n∈ls:=by
 have mem:∀m,m∈ms↔∃n∈ls,(n:Int)=m:=λm=>by
  rw[hp.mem_iff,gi,Kc]
 have pos:∀m∈ms,0≤m:=λm hm=>by
  obtain⟨n,_,rfl⟩:=(mem m).mp hm;omega
 have nd:ms.Nodup:=hp.nodup_iff.mpr (fk _);refine⟨ms.map Int.toNat,?_,?_,λn=>?_⟩
 ·unfold aF;rw[KY];refine Nx λm hm=>?_
  show V.int m=V.int (m.toNat:Int);rw[Rc (pos m hm)]
 ·rw[MU];refine(hs.and nd).imp_of_mem λha hb h=>?_
  have:=pos _ ha;have:=pos _ hb;obtain⟨h1,h2⟩:=h;omega
 ·rw[Kc];constructor
  ·rintro⟨m,hm,rfl⟩;obtain⟨n,hn,rfl⟩:=(mem m).mp hm;rw[MS];exact hn
  ·intro hn;exact⟨(n:Int),(mem _).mpr ⟨n,hn,Z⟩,MS n⟩
def nY(K:J5):Sp:=λvs H Q _=>∃(v u:V) (pc:Addr) (ws:List Wk) (hn:Nat) (tp:R) (ls:List Nat),vs=[v,.int hn,u,.ref pc]/\DH K H v u pc ws hn tp ls/\cy (c7 hn tp ls) (dS ws tp ls)=true/\∀H',aC H H'->Q (.bl true) H'
def og(K:J5):Sp:=λvs H Q _=>∃(v u x:V) (ws:List Wk) (hn:Nat) (tp:R) (pl:List (List Pc)),vs=[v,.int (hn:Nat),u,x]/\iW K H v ws/\Al ws/\hn≤9/\RV K H u tp/\iY tp/\DD K H x pl/\Dn ws pl/\(∀q∈pl,(∀c∈q,val c.2≤val tp)/\val (cN (q.map (·.2)))≤val tp*((hn:Nat):Rat))/\∀H',aC H H'->Q (.bl true) H'
def mB(K:J5):Sp:=λvs H Q _=>∃(v u sv:V) (ws:List Wk) (hn:Nat) (tp:R),vs=[v,.int (hn:Nat),u,sv]/\iW K H v ws/\yg ws/\1≤hn/\hn≤9/\RV K H u tp/\yh tp/\(∃rs,vF ws hn rs/\RV K H sv (rs.foldl fF (0,1))/\Wf 60 (rs.foldl fF (0,1)))/\∀H',aC H H'->Q (.bl true) H'
def mE(K:J5):Sp:=λvs H Q _=>∃(a:Addr) (ns:List Int),vs=[.ref a]/\aO K H a (ns.map V.int)/\ns.length≤63/\∀H',Q (.bl true) H'
theorem DD.deep{K:J5}{H:Hp}{v:V}{pl:List (List Pc)}(h:DD K H v pl):bS K H v (GD pl):=by
 obtain⟨q1,x1,rfl,g1,a1⟩:=h;exact .tup g1 (a1.deep λ_ _ z=>z.deep)
def Dj(K:J5)(H:Hp)(v:V)(x:R):Prop:=∃p a b,v=.ref p/\bH K H p [.int a,.int b]/\0<b/\b.natAbs<2^60/\dk a b=x/\yh x
theorem Dj.mono{K:J5}{H H':Hp}{v:V}{x:R}(h:Dj K H v x)(t:aT K H H'):Dj K H' v x:=let ⟨p,a,b,e,s,q⟩:=h;⟨p,a,b,e,t _ _ s,q⟩
def GE:List R:=[(1,1),(99,100),(101,100),(1,2),(2,1)]
theorem E8:∀q∈GE,Bq 100 3 q/\0<q.1:=λq hq=>by
 unfold GE at hq;simp only[Kn,L4,or_false] at hq;rcases hq with rfl|rfl|rfl|rfl|rfl<;>exact⟨⟨by decide,by decide,by decide,by decide⟩,by decide⟩
theorem Bj:aL ["thing"] ["thing"] (aq vd):=eV
theorem Ec:aL ["thing","count"] ["thing","count"] (aq Br):=eV
theorem Bm:aL ["thing","count"] ["thing","count"] (aq vq):=eV
theorem lv:aL ["one","other","high","low","rest"] ["one","other"] (aq Bx):=eV
theorem pZ:aL ["top","bottom","shared"] ["top","bottom"] (aq uZ):=eV
theorem mO:aL ["one","other","shared","top","rest"] ["one","other"] (aq uV):=eV
theorem Be:aL ["one","other"] ["one","other"] (aq uY):=eV
theorem pY:aL ["one","other","left","right"] ["one","other"] (aq uX):=eV
theorem Bg:aL ["one","other"] ["one","other"] (aq u4):=eV
theorem g7:aL ["some","tops","one","so_far","bottom","top"] ["some"] (aq uW):=eV
theorem mT:aL ["some","bottom","one"] ["some"] (aq vA):=eV
theorem uN:aL ["work","top","turns","others","rest"] ["work","top","turns"] (aq Bp):=eV
theorem uQ:aL ["works","hands","top","thing","room"] ["works","hands","top","thing"] (aq vo):=eV
theorem qa:aL ["rows","plan","turn"] ["rows"] (aq u3):=eV
theorem qd:aL ["works","hands","top","pouring","sources"] ["works","hands","top"] (aq vn):=eV
theorem Bo:aL ["_law_script","_law_k"] ["_law_script","_law_k"] (aq vz):=eV
theorem gc:aL ["_law_cell","_law_many","_law_found","_law_number","_law_mixed","_law_k"] ["_law_cell","_law_many"] (aq vm):=eV
theorem Bi:aL ["_law_tape","_law_many"] ["_law_tape","_law_many"] (aq vc):=eV
theorem qb:aL ["_law_top","_law_bottom","_law_one","_law_other"] ["_law_top","_law_bottom"] (aq vb):=eV
theorem Bh:aL ["_law_one","_law_other"] ["_law_one","_law_other"] (aq va):=eV
theorem Bl:aL ["_law_one","_law_other"] ["_law_one","_law_other"] (aq vi):=eV
theorem Bk:aL ["_law_one","_law_other"] ["_law_one","_law_other"] (aq vh):=eV
theorem Bf:aL ["_law_one","_law_other"] ["_law_one","_law_other"] (aq u0):=eV
theorem Bn:aL ["_law_one","_law_other"] ["_law_one","_law_other"] (aq vy):=eV
theorem mS:aL ["_law_some","_law_found","_law_one"] ["_law_some"] (aq vg):=eV
theorem mR:aL ["_law_some","_law_found","_law_one"] ["_law_some"] (aq u9):=eV
theorem eG:aL ["_law_tape","_law_most_here","_law_turns","_law_works_here","_law_k","_law_way","_law_first","_law_last","_law_amount"] ["_law_tape","_law_most_here","_law_turns"] (aq vf):=eV
theorem mQ:aL ["_law_works_here","_law_some","_law_rooms","_law_found","_law_turn","_law_many"] ["_law_works_here","_law_some","_law_rooms"] (aq u8):=eV
theorem mP:aL ["_law_stay","_law_found","_law_j"] ["_law_stay"] (aq u7):=eV
theorem fN:aL ["_law_works_here","_law_stay","_law_rooms","_law_swift","_law_found","_law_some","_law_busy_here","_law_amount"] ["_law_works_here","_law_stay","_law_rooms"] (aq vx):=eV
theorem fh:aL ["_law_works_here","_law_hands","_law_rooms","_law_stay","_law_speeds_here","_law_swift","_law_some","_law_busy_here","_law_j"] ["_law_works_here","_law_hands"] (aq vw):=eV
theorem om:aL ["_law_works_here","_law_plan","_law_done","_law_turn","_law_j","_law_amount"] ["_law_works_here","_law_plan"] (aq Bt):=eV
theorem f9:aL ["_law_works_here","_law_hands","_law_top","_law_turns","_law_found","_law_first","_law_last","_law_amount","_law_beyond","_law_rest"] ["_law_works_here","_law_hands","_law_top","_law_turns"] (aq u6):=eV
theorem uP:aL ["_law_works_here","_law_hands","_law_top","_law_plan","_law_pieces"] ["_law_works_here","_law_hands","_law_top","_law_plan"] (aq u5):=eV
theorem qc:aL ["_law_works_here","_law_hands","_law_top","_law_swift","_law_turn","_law_found"] ["_law_works_here","_law_hands","_law_top","_law_swift"] (aq ve):=eV
theorem fM:aL ["_law_script","_law_k","_law_tape","_law_works_here","_law_hands","_law_swift","_law_tops","_law_by_here","_law_top"] ["_law_script"] (aq uU):=eV
theorem uT:aL ["self","works","free","speed","parts"] ["self","works","free","speed"] (aq vD):=eV
theorem uO:aL ["self","node","count","work"] ["self","node"] (aq Bs):=eV
theorem i5:aL ["self","numbers","sources","row","number","place","source","node"] ["self","numbers"] (aq Bv):=eV
theorem AE:aL ["self","sources","count"] ["self","sources"] (aq Bw):=eV
theorem jW:aL ["self","sources","turn","count","way","bounds","place","amount"] ["self","sources","turn"] (aq By):=eV
theorem AF:aL ["self","source","node","count"] ["self","source","node"] (aq Bz):=eV
theorem uS:aL ["self","source","node","amount","count"] ["self","source","node","amount"] (aq vC):=eV
theorem qf:aL ["self","sources","ends"] ["self"] (aq vB):=eV
theorem AD:aL ["self","number","work"] ["self","number"] (aq Bu):=eV
end My
namespace My
open PySem L2 B PyProof.Rows
section
variable {P:KZ}{w:Lk}{K:J5}{mg:K1->Option Value}{base:Kp}{t:Ad}
theorem Cs(T:eS K mg t):bu P w K mg base dP 1 t.a_Q28 t.d_Q28 ["thing"] (oi K):=by
 refine T.F_Q28.ok Bj (λvs H Q E h=>?_) (λcdv A outer s H vs Q E hr h=>?_)
 ·obtain⟨_,_,rfl,_⟩:=h;rfl
 obtain⟨v,d,rfl,hD,k⟩:=h;obtain⟨b,c,e1,e2,e3⟩:=zU hD;refine dj.ok (aj (aM (vW (aH dq (by rfl) T.z_isinstance Nk (aa (qv 0) (aa (fO (v:=V.ty "int") Z T.z_int boot_int Z) af ac) ac)) (vR (BL (aH dq (by rfl) T.z_isinstance Nk (aa (qv 0) (aa (fO (v:=V.ty "bool") Z T.z_bool boot_bool Z) af ac) ac))))))) ?_;nofun
 rw[e3] at k;refine⟨_,Z,_,_,_,_,Z,hD,e1,_,Z,?_⟩
 cases b with
 |false=>exact k
 |true=>exact⟨_,Z,_,_,_,_,Z,hD,e2,_,Z,k⟩
theorem EE(T:eS K mg t):bu P w K mg base dP 2 t.a_Q8 t.d_Q8 ["thing","count"] (je K):=by
 refine T.F_Q8.ok Ec (λvs H Q E h=>?_) (λcdv A outer s H vs Q E hr h=>?_)
 ·obtain⟨_,_,rfl,_⟩:=h;rfl
 obtain⟨v,d,rfl,hD,k⟩:=h;refine dj.ok (aj (aM (vW (cQ (Cs T) hr T.m_Q28 T.F_Q28.kp T.b_Q28 (aa (qv 0) af ac)) (vR (vV lE fV ah (qv 0) (qv 1)))))) ?_;nofun
 refine⟨_,Z,v,d,Z,hD,_,Z,?_⟩
 cases hw:l7 d with
 |false=>
  have e:jk d=false:=by cases d with|int i=>cases hw|_=>rfl
  rw[e] at k;exact k
 |true=>
  obtain⟨i,rfl⟩:=pI hw
  cases hD
  have k':Q (.bl (decide (0≤i)&&decide (i<24))) H:=k;refine⟨_,Z,_,_,Z,Z,_,Z,?_⟩;by_cases c:0≤i
  ·refine cJ c ?_;rw[decide_eq_true c] at k';exact⟨_,Z,_,_,Z,Z,k'⟩
  ·refine cA c ?_;rw[decide_eq_false c] at k';exact k'
theorem CA(T:eS K mg t):bu P w K mg base dP 3 t.a_Q18 t.d_Q18 ["thing","count"] (mF K):=by
 refine T.F_Q18.ok Bm (λvs H Q E h=>?_) (λcdv A outer s H vs Q E hr h=>?_)
 ·obtain⟨_,_,rfl,_⟩:=h;rfl
 obtain⟨v,d,rfl,hD,hl,k⟩:=h;refine dj.ok (ae (bF (gP (ik (cZ (cH (aH dq (by rfl) T.z_isinstance Nk (aa (qv 0) (aa (fO (v:=V.ty "tuple") Z T.z_tuple NJ Z) af ac) ac)))) (ge (cZ (cH (aH (iV Z) (by rfl) T.z_all boot_all (aa (bc (N':=["part","count"]) (src:=[none,some 1]) Z (by exact(db (qv 0))) (λ_ _ _ _ _=>(by exact(by exact aA (i:=0) (by show KU (["part","count"]:List K1);decide +kernel) (by exact Z) (by first|exact KW Z|exact KR Z)))) (λ_ _ _ _ _=>ck) (λ_ _ _ _ _=>(by exact(by exact(gz (EE T) (by exact hr.mono (by decide)) (by exact Z) T.m_Q8 T.F_Q8.kp T.b_Q8 (by exact .nil) (by exact dW) (aa (by exact(qv 0)) (aa (by exact(qv 1)) af ac) ac))))) (by exact⟨Z,Z,Z,Z,trivial⟩) Z (by decide +kernel) Z (by decide +kernel) (by exact aW Z ⟨Z,trivial⟩)) af cW))))))) (aj (aM c8)) aX) (aj (aM (aH (iV Z) (by rfl) T.z_all boot_all (aa (bc (N':=["place","thing"]) (src:=[none,some 0]) Z (by exact(gy Z T.z_range (aa ah (aa (aH aI (by rfl) T.z_len LM (aa (qv 0) af ac)) af aK) aG))) (λ_ _ _ _ _=>(by exact(by exact aA (i:=0) (by show KU (["place","thing"]:List K1);decide +kernel) (by exact Z) (by first|exact KW Z|exact KR Z)))) (λ_ _ _ _ _=>ck) (λ_ _ _ _ _=>(by exact(by exact(jz fV (by exact(bG (cI (K:=K) (by exact Z)) (by exact(qv 1)) (by exact(aD de (by exact(qv 0)) ah)) (by exact λ_ _=>Z))) (by exact(bG (cI (K:=K) (by exact Z)) (by exact(qv 1)) (by exact(qv 0)) (by exact λ_ _=>Z))) (aU _))))) (by exact⟨Z,Z,Z,Z,trivial⟩) Z (by decide +kernel) Z (by decide +kernel) (by exact aW Z ⟨Z,trivial⟩)) af cW))))) ?_
 nofun
 rcases zT hD with⟨e,p,xs,ds,rfl,rfl,hS,hA⟩ | ⟨e,no⟩
 rotate_left
 ·refine⟨_,Z,_,_,_,_,Z,hD,e,_,Z,hZ (hZ ?_)⟩;have:=k _ (aC.refl _);rw[show Ee d=false by cases d with|tuple ds=>exact absurd rfl (no _)|_=>rfl] at this;exact this
 refine⟨_,Z,_,_,_,_,Z,hD,e,_,Z,cO ?_⟩;have len:=hA.len;have hl':ds.length≤24:=hl;refine⟨_,Z,p,Z,⟨_,hS⟩,λD hDn=>bY (l5 hS) (λ_=>true) (λi=>V.bl (jk (ds.getD i .none))) hDn (by omega) (λi x H' hi s' hx R E kR kE=>?_) λH1 s1 h1=>?_⟩
 ·obtain⟨v,hv,dv⟩:=be.atN hA (J6 (show i<ds.length by omega));rw[hx] at hv
  cases hv
  rw[au SC (J6 (show i<ds.length by omega))] at kR;exact⟨eU.set Z,_,Z,_,Z,x,_,Z,dv.same s',kR Z _ (aC.refl _)⟩
 have e1:(((J9 xs.length).filter λ_=>true).map λi=>V.bl (jk (ds.getD i .none)))=((J9 xs.length).map λi=>jk (ds.getD i .none)).map V.bl:=by rw[M3.mpr (λ_ _=>Z),KY];rfl
 rw[e1] at h1;have al:((J9 xs.length).map λi=>jk (ds.getD i .none)).all id=ds.all jk:=by rw[len,yd]
 refine⟨D,_,Z,aO.of h1,⟨_,Z,?_⟩⟩;rw[al]
 cases hn:ds.all jk with
 |false=>
  refine hZ ?_;have:=k _ s1;rw[show Ee (.tuple ds)=false by show(ds.all jk&&_)=false;rw[hn];rfl] at this;exact this
 |true=>
 refine cO ?_;obtain⟨ls,rfl,lt⟩:=rK hn
 cases lM hA
 have nl:(aF ls).length=ls.length:=J7 _;have l24:ls.length≤24:=by rw[J7] at hl';exact hl'
 have en:(((aF ls).length:Int)-1).toNat=ls.length-1:=by omega
 have hS1:=aT.same (K:=K) s1 _ _ hS;refine⟨_,Z,p,_,Z,.inr hS1,_,_,Z,?_,λD2 hD2=>?_⟩
 ·refine⟨by omega,by omega,by omega,by omega⟩
 rw[en];refine bY (fK (lo:=1)) (λ_=>true) (λi=>V.bl (decide (ls.getD i 0<ls.getD (i+1) 0))) hD2 (by omega) (λi x H' hi s' hx R E kR kE=>?_) λH4 s4 h4=>?_
 ·subst hx;have h2:=aT.same (K:=K) s' _ _ hS1;have a1:ls[i]?=some (ls[i]'(by omega)):=J6 _;have a2:ls[i+1]?=some (ls[i+1]'(by omega)):=J6 _;have b1:(aF ls)[i]?=some (V.int (ls[i]'(by omega):Nat)):=by unfold aF;rw[Kt,a1];rfl
  have b2:(aF ls)[i+1]?=some (V.int (ls[i+1]'(by omega):Nat)):=by unfold aF;rw[Kt,a2];rfl
  rw[au 0 a1,au 0 a2] at kR;have c1:pD (aF ls) (1+(i:Int)-1)=some (V.int (ls[i]'(by omega):Nat)):=by rw[show 1+(i:Int)-1=((i:Nat):Int) by omega];exact aP b1
  have c2:pD (aF ls) (1+(i:Int))=some (V.int (ls[i+1]'(by omega):Nat)):=by rw[show 1+(i:Int)=((i+1:Nat):Int) by omega];exact aP b2
  refine⟨eU.set Z,_,Z,_,Z,_,_,Z,Z,p,_,_,_,Z,Z,h2,c1,_,Z,_,Z,p,_,_,_,Z,Z,h2,c2,_,_,Z,Z,?_⟩;have:=kR Z H' (aC.refl _);dsimp only;rw[show decide (((ls[i]'(by omega):Nat):Int)<((ls[i+1]'(by omega):Nat):Int))=decide ((ls[i]'(by omega):Nat)<ls[i+1]'(by omega)) from decide_eq_decide.mpr (by omega)];exact this
 rw[M3.mpr (λ_ _=>Z)] at h4;refine⟨D2,(J9 (ls.length-1)).map λi=>decide (ls.getD i 0<ls.getD (i+1) 0),Z,aO.of (by rw[KY];exact h4),?_⟩;have:=k _ (s1.trans s4);rw[show Ee (.tuple (ls.map λn:Nat=>LS n))=tj ls by show(_&&tj _)=_;rw[hn,rL];rfl] at this;rw[Qt];exact this
theorem lF(T:eS K mg t):bu P w K mg base dP 1 t.a_Q2 t.d_Q2 ["one","other"] (gJ K):=by
 refine T.F_Q2.ok lv (λvs H Q E h=>?_) (λcdv A outer s H vs Q E hr h=>?_)
 ·obtain⟨_,_,rfl,_⟩:=h;rfl
 obtain⟨a,b,rfl,k⟩:=h;refine dj.ok (ae (cz 2 lv.nd (aH kC (by rfl) T.z_abs boot_abs (aa (qv 0) af ac))) (ae (cz 3 lv.nd (aH kC (by rfl) T.z_abs boot_abs (aa (qv 1) af ac))) (ae (fE KD (aN oF (qv 3) ah (aU _)) (ae (cz 4 lv.nd (aD gf (qv 2) (qv 3))) (ae (cz 2 lv.nd (qv 3)) (aj (cz 3 lv.nd (qv 4)))))) (aj (aM (qv 2)))))) ?_
 nofun
 refine⟨_,Z,_,Z,_,Z,_,Z,?_⟩;rw[qN,qN];refine⟨λm σ H'=>∃(x y:Int) (v:Option V),σ=[some (.int a),some (.int b),some (.int x),some (.int y),v]/\H'=H/\0≤x/\0≤y/\KA x y=KA a b/\m=y.toNat,⟨_,_,_,_,Z,Z,by omega,by omega,(by simp[KA]),Z⟩,?_⟩;rintro m σ H' ⟨x,y,v,rfl,rfl,hx,hy,hg,rfl⟩;refine⟨_,Z,Z,_,Z,?_⟩;by_cases c:y=0
 ·subst c;refine jb Z ?_;rw[←hg] at k;refine⟨_,Z,?_⟩;have e:(x:Int)=(KA x 0:Nat):=by simp[KA];omega
  rw[←e] at k;exact k
 ·refine ER (λz=>c (by injection z)) ?_;refine⟨_,λ_ _ z=>z,?_⟩;refine⟨_,Z,_,Z,_,_,Z,Z,(by omega),_,Z,_,Z,?_⟩;refine⟨_,?_,y,x%y,_,Z,Z,hy,Mx _ c,?_,Z⟩
  ·have:=MF x (show 0<y by omega);have:=Mx x c;omega
  ·rw[oR hx (by omega),hg]
theorem wJ(T:eS K mg t):bu P w K mg base dP 2 t.a_Q42 t.d_Q42 ["top","bottom"] (uI K):=by
 refine T.F_Q42.ok pZ (λvs H Q E h=>?_) (λcdv A outer s H vs Q E hr h=>?_)
 ·obtain⟨_,_,rfl,_⟩:=h;rfl
 obtain⟨a,b,rfl,hb,hz,k⟩:=h;refine dj.ok (ae (bF (aN oG (qv 1) ah (aU _)) (aj jY) aX) (ae (cz 2 pZ.nd (cQ (lF T) hr T.m_Q2 T.F_Q2.kp T.b_Q2 (aa (qv 0) (aa (qv 1) af ac) ac))) (ae (bF (aN fV (qv 1) ah (aU _)) (aj (cz 2 pZ.nd (lC iP (qv 2)))) aX) (aj (aM (bv (aa (aD c6 (qv 0) (qv 2)) (aa (aD c6 (qv 1) (qv 2)) af aR) aR))))))) ?_
 nofun
 have gp:=bR (a:=a) hb;have gb:((KA a b:Nat):Int).natAbs<2^4000:=by
  have z:KA a b≤b.natAbs:=Ri (by omega) (by have:=Nn a b;exact Ng.mpr this);have e:((KA a b:Nat):Int).natAbs=KA a b:=Oo _;omega
 refine⟨_,Z,Z,_,Z,?_⟩;refine cA (λz=>by injection z with z;omega) ?_;refine⟨_,rfl,_,rfl,a,b,rfl,?_⟩;refine⟨_,rfl,_,_,rfl,rfl,_,rfl,?_⟩;refine cA (by omega) ?_;refine⟨_,rfl,_,rfl,_,_,rfl,rfl,⟨gp,gb⟩,_,rfl,_,rfl,_,_,rfl,rfl,⟨gp,gb⟩,gI,λp hp=>?_⟩;exact k p hp
theorem wI(T:eS K mg t):bu P w K mg base dP 2 t.a_Q46 t.d_Q46 ["one","other"] (yJ K):=by
 refine T.F_Q46.ok mO (λvs H Q E h=>?_) (λcdv A outer s H vs Q E hr h=>?_)
 ·obtain⟨_,_,_,_,_,_,rfl,_⟩:=h;rfl
 obtain⟨v,w,r,q,n,m,rfl,hv,hw,wr,wq,hz,k⟩:=h;refine dj.ok (ae (cz 2 mO.nd (cQ (lF T) hr T.m_Q2 T.F_Q2.kp T.b_Q2 (aa (bL ay (qv 0) ah) (aa (bL ay (qv 1) ah) af aQ) aQ))) (ae (cz 3 mO.nd (aD cf (aD bi (bL ay (qv 0) ah) (aD c6 (bL ay (qv 1) ah) (qv 2))) (aD bi (bL ay (qv 1) ah) (aD c6 (bL ay (qv 0) ah) (qv 2))))) (ae (cz 4 mO.nd (cQ (lF T) hr T.m_Q2 T.F_Q2.kp T.b_Q2 (aa (qv 3) (aa (qv 2) af ac) ac))) (aj (aM (bv (aa (aD c6 (qv 3) (qv 4)) (aa (aD bi (aD c6 (bL ay (qv 0) ah) (qv 2)) (aD c6 (bL ay (qv 1) ah) (qv 4))) af aR) aR))))))) ?_
 nofun
 obtain⟨p,rfl,hv⟩:=hv;obtain⟨p',rfl,hw⟩:=hw;have c1:=aV wr.top (show n≤4000 by omega);have c2:=aV wr.bot (show n≤4000 by omega);have c3:=aV wq.top (show m≤4000 by omega);have c4:=aV wq.bot (show m≤4000 by omega);have gp:(0:Int)<(KA r.2 q.2:Nat):=bR wq.pos;have gb:=kn (a:=r.2) wq.pos c4;refine⟨_,Z,p,_,_,_,Z,Z,hv,Z,_,Z,p',_,_,_,Z,Z,hw,Z,r.2,q.2,Z,?_⟩;have z:=v6 ⟨wr.pos,wr.cop⟩ ⟨wq.pos,wq.cop⟩;have kk:kO H Q (oC r q):=by rw[z];exact k
 unfold oC at kk;simp only at kk;generalize ((KA r.2 q.2:Nat):Int)=d at gp gb kk ⊢;refine⟨_,Z,p,_,_,_,Z,Z,hv,Z,_,Z,p',_,_,_,Z,Z,hw,Z,_,Z,_,_,Z,Z,⟨gp,gb⟩,_,_,Z,Z,⟨c1,gm gp c4⟩,_,Z,p',_,_,_,Z,Z,hw,Z,_,Z,p,_,_,_,Z,Z,hv,Z,_,Z,_,_,Z,Z,⟨gp,gb⟩,_,_,Z,Z,⟨c3,gm gp c2⟩,_,_,Z,Z,?_⟩;refine⟨_,Z,_,Z,_,_,Z,?_⟩;have ep:(0:Int)<(KA (r.1*(q.2/d)+q.1*(r.2/d)) d:Nat):=bR gp;have eb:=kn (a:=r.1*(q.2/d)+q.1*(r.2/d)) gp gb;generalize ((KA (r.1*(q.2/d)+q.1*(r.2/d)) d:Nat):Int)=e at ep eb kk ⊢;refine⟨_,Z,_,Z,_,_,Z,Z,⟨ep,eb⟩,_,Z,p,_,_,_,Z,Z,hv,Z,_,Z,_,_,Z,Z,⟨gp,gb⟩,_,Z,p',_,_,_,Z,Z,hw,Z,_,Z,_,_,Z,Z,⟨ep,eb⟩,_,_,Z,Z,⟨gm gp c2,gm ep c4⟩,gI,kk⟩
theorem Cl(T:eS K mg t):bu P w K mg base dP 3 t.a_Q43 t.d_Q43 ["one","other"] (uJ K):=by
 refine T.F_Q43.ok Be (λvs H Q E h=>?_) (λcdv A outer s H vs Q E hr h=>?_)
 ·obtain⟨_,_,_,_,_,_,rfl,_⟩:=h;rfl
 obtain⟨v,w,r,q,n,m,rfl,hv,hw,wr,wq,hz,k⟩:=h;refine dj.ok (aj (aM (cQ (wI T) hr T.m_Q46 T.F_Q46.kp T.b_Q46 (aa (qv 0) (aa (bv (aa (lC iP (bL ay (qv 1) ah)) (aa (bL ay (qv 1) ah) af aQ) yG)) af bQ) ac)))) ?_;nofun
 obtain⟨p',rfl,hw⟩:=hw;refine⟨_,Z,_,Z,p',_,_,_,Z,Z,hw,Z,_,Z,_,Z,p',_,_,_,Z,Z,hw,Z,gI,λpt ht=>?_⟩;have s1:=ai ht (.tup [.int (-q.1),.int q.2]);refine⟨v,.ref pt,r,(-q.1,q.2),n,m,Z,hv.mono (aT.same s1),RV.of zqd,wr,⟨wq.pos,by show(-q.1).natAbs<_;rw[S1];exact wq.top,wq.bot,xT wq.cop⟩,hz,λp hp=>?_⟩;refine k _ _ (s1.trans (ai hp _)) ?_;rw[←oM];exact RV.of zqd
theorem qp(T:eS K mg t):bu P w K mg base dP 2 t.a_Q44 t.d_Q44 ["one","other"] (uH K):=by
 refine T.F_Q44.ok pY (λvs H Q E h=>?_) (λcdv A outer s H vs Q E hr h=>?_)
 ·obtain⟨_,_,_,_,_,_,rfl,_⟩:=h;rfl
 obtain⟨v,w,r,q,n,m,rfl,hv,hw,wr,wq,hz,k⟩:=h;refine dj.ok (ae (cz 2 pY.nd (cQ (lF T) hr T.m_Q2 T.F_Q2.kp T.b_Q2 (aa (bL ay (qv 0) ah) (aa (bL ay (qv 1) ah) af aQ) aQ))) (ae (cz 3 pY.nd (cQ (lF T) hr T.m_Q2 T.F_Q2.kp T.b_Q2 (aa (bL ay (qv 1) ah) (aa (bL ay (qv 0) ah) af aQ) aQ))) (aj (aM (bv (aa (aD bi (aD c6 (bL ay (qv 0) ah) (qv 2)) (aD c6 (bL ay (qv 1) ah) (qv 3))) (aa (aD bi (aD c6 (bL ay (qv 0) ah) (qv 3)) (aD c6 (bL ay (qv 1) ah) (qv 2))) af aR) aR)))))) ?_
 nofun
 obtain⟨p,rfl,hv⟩:=hv;obtain⟨p',rfl,hw⟩:=hw;have c1:=aV wr.top (show n≤4000 by omega);have c2:=aV wr.bot (show n≤4000 by omega);have c3:=aV wq.top (show m≤4000 by omega);have c4:=aV wq.bot (show m≤4000 by omega);have lp:(0:Int)<(KA r.1 q.2:Nat):=bR wq.pos;have lb:=kn (a:=r.1) wq.pos c4;have mp:(0:Int)<(KA q.1 r.2:Nat):=bR wr.pos;have mb:=kn (a:=q.1) wr.pos c2;have z:=sT ⟨wr.pos,wr.cop⟩ ⟨wq.pos,wq.cop⟩;have kk:kO H Q (jL r q):=by rw[z];exact k
 unfold jL at kk;simp only at kk;refine⟨_,Z,p,_,_,_,Z,Z,hv,Z,_,Z,p',_,_,_,Z,Z,hw,Z,r.1,q.2,Z,_,Z,p',_,_,_,Z,Z,hw,Z,_,Z,p,_,_,_,Z,Z,hv,Z,q.1,r.2,Z,?_⟩;generalize ((KA r.1 q.2:Nat):Int)=l at lp lb kk ⊢;generalize ((KA q.1 r.2:Nat):Int)=m' at mp mb kk ⊢;refine⟨_,Z,p,_,_,_,Z,Z,hv,Z,_,Z,_,_,Z,Z,⟨lp,lb⟩,_,Z,p',_,_,_,Z,Z,hw,Z,_,Z,_,_,Z,Z,⟨mp,mb⟩,_,_,Z,Z,⟨gm lp c1,gm mp c3⟩,_,Z,p,_,_,_,Z,Z,hv,Z,_,Z,_,_,Z,Z,⟨mp,mb⟩,_,Z,p',_,_,_,Z,Z,hw,Z,_,Z,_,_,Z,Z,⟨lp,lb⟩,_,_,Z,Z,⟨gm mp c2,gm lp c4⟩,gI,kk⟩
theorem wK(T:eS K mg t):bu P w K mg base dP 1 t.a_Q37 t.d_Q37 ["one","other"] (jS K):=by
 refine T.F_Q37.ok Bg (λvs H Q E h=>?_) (λcdv A outer s H vs Q E hr h=>?_)
 ·obtain⟨_,_,_,_,_,_,rfl,_⟩:=h;rfl
 obtain⟨v,w,r,q,n,m,rfl,hv,hw,wr,wq,hz,k⟩:=h;refine dj.ok (aj (aM (jz fV (aD bi (bL ay (qv 0) ah) (bL ay (qv 1) ah)) (aD bi (bL ay (qv 1) ah) (bL ay (qv 0) ah)) (aU _)))) ?_;nofun
 obtain⟨p,rfl,hv⟩:=hv;obtain⟨p',rfl,hw⟩:=hw;have c1:=aV wr.top (show n≤4000 by omega);have c2:=aV wr.bot (show n≤4000 by omega);have c3:=aV wq.top (show m≤4000 by omega);have c4:=aV wq.bot (show m≤4000 by omega);refine⟨_,Z,p,_,_,_,Z,Z,hv,Z,_,Z,p',_,_,_,Z,Z,hw,Z,_,_,Z,Z,⟨c1,c4⟩,_,Z,p',_,_,_,Z,Z,hw,Z,_,Z,p,_,_,_,Z,Z,hv,Z,_,_,Z,Z,⟨c3,c2⟩,_,_,Z,Z,k⟩
theorem Ck(T:eS K mg t):bu P w K mg base dP 3 t.a_Q45 t.d_Q45 ["some"] (uG K):=by
 refine T.F_Q45.ok g7 (λvs H Q E h=>?_) (λcdv A outer s H vs Q E hr h=>?_)
 ·obtain⟨_,_,_,_,_,rfl,_⟩:=h;rfl
 obtain⟨a,xs,rs,n,D₀,rfl,hS,hR,hWD,h0,hDn₀,hlen,hn,k⟩:=h;refine dj.ok (ae (cz 1 g7.nd j3) (ae (bT KD Z (BK (qv 0)) (aA (i:=2) g7.nd Z (by first|exact KW Z|exact KR Z)) (aj (ju (iu hr) (qv 1) (bL ay (qv 2) ah) (aD cf (vU (iu hr) (qv 1) (bL ay (qv 2) ah) ah ⟨Z,Z,Z,Z⟩) (bL ay (qv 2) ah)) Z))) (ae (cz 3 g7.nd (dt (v:=.ref t.c_NOUGHT) Z T.m_NOUGHT Z)) (ae (bT KD Z (vO (qv 1)) (j0 Z (bB (aA (i:=4) g7.nd Z (by first|exact KW Z|exact KR Z)) (bB (aA (i:=5) g7.nd Z (by first|exact KW Z|exact KR Z)) dY))) (aj (cz 3 g7.nd (cQ (wI T) hr T.m_Q46 T.F_Q46.kp T.b_Q46 (aa (qv 3) (aa (cQ (wJ T) hr T.m_Q42 T.F_Q42.kp T.b_Q42 (aa (qv 5) (aa (qv 4) af ac) ac)) af aK) ac))))) (aj (aM (qv 3))))))) ?_
 nofun
 refine λD hDn=>⟨_,Z,?_⟩
 have sD:=ai hDn (.dK []);rcases hS with hS|hS
 ·refine .inl ⟨a,Z,⟨_,sD.seq hS⟩,cU (K:=K) (a:=a) (xs:=xs) (λi σ H'=>∃(x:Option V) (ps:List (Int×Int)),σ=[some (.ref a),some (.ref D),x,none,none,none]/\aC H H'/\H' D=some (.dK (kQ ps))/\jr n i ps/\(∀p∈ps,p.1∣(D₀:Int))/\gU ps=jd (rs.take i)) ⟨none,[],Z,sD,zqd,jr.nil n,(λ_ h=>nomatch h),Z⟩ (λi σ H1 _ ⟨_,_,_,s1,_⟩=>s1.seq hS) ?_ ?_⟩
  ·rintro i y σ H1 hi ⟨x,ps,rfl,s1,hD1,ok,dv,ev⟩;obtain⟨ry,hry,hyv⟩:=hR.at hi;have my:ry∈rs:=Ke hry;have hil:=(Kg.mp hry).1;obtain⟨py,rfl,hSy⟩:=hyv.mono (aT.same s1);have el:(kQ ps).length=ps.length:=J7 _;have hlp:(kQ ps).length<sizeLine:=by rw[el];exact bf (by have:=ok.len;omega)
   refine⟨_,Z,D,Z,.inl ⟨_,.inl hD1⟩,_,Z,py,_,_,_,Z,Z,hSy,Z,_,ib.k (k:=KN ry.2) hD1,_,Z,py,_,_,_,Z,Z,hSy,Z,pQ ps ry.2,ry.1,nB ps ry.2,Z,_,Z,_,Z,py,_,_,_,Z,Z,hSy,Z,D,_,Z,kW.k (k:=KN ry.2) hD1 hlp,?_⟩;refine⟨_,fz ps ry.2 ry.1,Z,λb o q=>?_,?_,ok.add (hWD ry my).1,sJ (i:=0) (n:=0) dv (hWD ry my).2,?_⟩
   ·rw[ak (aB q hDn)];exact s1 b o q
   ·rw[mX ps _ _ ok.nd];exact zqd
   ·rw[jM,ev,KP,hry];exact(iN _ _).symm
  ·rintro σ H1 ⟨x,ps,rfl,s1,hD1,ok,dv,ev⟩;rw[hR.1,K2] at ev;rw[hR.1] at ok;refine⟨_,Z,D,kQ ps,Z,hD1,λob=>lJ (d:=D) (ob:=ob) (kvs:=kQ ps) (λj σ H'=>∃(u:V) (acc:R) (y4 y5:Option V),σ=[some (.ref a),some (.ref D),x,some u,y4,y5]/\aC H H'/\H' D=some (.frz ob (.dK (kQ ps)))/\RV K H' u acc/\Bq D₀ (64*2^n*j) acc/\val acc=gU (ps.take j)) ⟨_,(0,1),none,none,Z,?_,zqd,⟨_,Z,T.q_NOUGHT _⟩,⟨by decide,by decide,⟨(D₀:Int),by show(D₀:Int)=1*D₀;omega⟩,by show 0≤_;exact KJ _⟩,gT⟩ (λi σ H1 ⟨_,_,_,_,_,_,z,_⟩=>z) ?_ ?_⟩
   ·intro b o q;rw[ak (aB q hDn)];exact s1 b o q
   ·rintro j kk v p σ H2 hkv ⟨u,acc,y4,y5,rfl,s2,hD2,r2,w2,ev2⟩ hp;have hkv':(ps.map λp=>((KN p.1:cv),V.int p.2))[j]?=some (kk,v):=hkv;rw[Kt] at hkv';obtain⟨q,hq,e⟩:=LR.mp hkv'
    cases e
    have mq:=Ke hq;have hjl:=(Kg.mp hq).1;have wq:=ok.wf (by omega) mq;have lps:=ok.len;have gq:=xx ok dv hlen mq;have wa:=yf w2 (by omega) h0 hDn₀;have bq:=ok.bot q mq;have e1:=ai hp (.tup [kV (KN q.1),V.int q.2]);refine⟨p,_,Z,bH.of zqd,Z,_,_,Z,_,_,Z,Z,?_⟩;refine⟨_,Z,_,Z,_,Z,q.2,q.1,Z,bq.1,aV bq.2 (by omega),λp1 g1=>?_⟩;have e2:=ai g1 (.tup [.int (dk q.2 q.1).1,.int (dk q.2 q.1).2]);refine⟨u,.ref p1,acc,dk q.2 q.1,2*n+12,n+8,Z,(r2.mono (aT.same e1)).mono (aT.same e2),RV.of zqd,wa,wq,by omega,λp2 g2=>?_⟩;have e3:=ai g2 (.tup [.int (bj acc (dk q.2 q.1)).1,.int (bj acc (dk q.2 q.1)).2]);have s3:=((e1.trans e2).trans e3);refine⟨_,bj acc (dk q.2 q.1),_,_,Z,s2.trans s3,s3 _ _ hD2,RV.of zqd,(by rw[R6];exact Bq.plus h0 w2 gq),?_⟩;rw[fY w2.pos wq.pos,iO bq.1,ev2,KP,hq];exact(iR _ _).symm
   ·rintro σ H2 ⟨u,acc,y4,y5,rfl,s2,hD2,r2,w2,ev2⟩;have el:(kQ ps).length=ps.length:=J7 _;rw[el,K2] at ev2;have es:=uD (λr hr=>(hWD r hr).1.red) w2.red (ev2.trans ev);rw[es] at r2;exact⟨_,Z,k u H2 s2 r2⟩
 ·refine .inr ⟨a,Z,⟨_,aT.same sD _ _ hS⟩,iw (K:=K) (a:=a) (xs:=xs) (λi σ H'=>∃(x:Option V) (ps:List (Int×Int)),σ=[some (.ref a),some (.ref D),x,none,none,none]/\aC H H'/\H' D=some (.dK (kQ ps))/\jr n i ps/\(∀p∈ps,p.1∣(D₀:Int))/\gU ps=jd (rs.take i)) ⟨none,[],Z,sD,zqd,jr.nil n,(λ_ h=>nomatch h),Z⟩ (λi σ H1 _ ⟨_,_,_,s1,_⟩=>aT.same s1 _ _ hS) ?_ ?_⟩
  ·rintro i y σ H1 hi ⟨x,ps,rfl,s1,hD1,ok,dv,ev⟩;obtain⟨ry,hry,hyv⟩:=hR.at hi;have my:ry∈rs:=Ke hry;have hil:=(Kg.mp hry).1;obtain⟨py,rfl,hSy⟩:=hyv.mono (aT.same s1);have el:(kQ ps).length=ps.length:=J7 _;have hlp:(kQ ps).length<sizeLine:=by rw[el];exact bf (by have:=ok.len;omega)
   refine⟨_,Z,D,Z,.inl ⟨_,.inl hD1⟩,_,Z,py,_,_,_,Z,Z,hSy,Z,_,ib.k (k:=KN ry.2) hD1,_,Z,py,_,_,_,Z,Z,hSy,Z,pQ ps ry.2,ry.1,nB ps ry.2,Z,_,Z,_,Z,py,_,_,_,Z,Z,hSy,Z,D,_,Z,kW.k (k:=KN ry.2) hD1 hlp,?_⟩;refine⟨_,fz ps ry.2 ry.1,Z,λb o q=>?_,?_,ok.add (hWD ry my).1,sJ (i:=0) (n:=0) dv (hWD ry my).2,?_⟩
   ·rw[ak (aB q hDn)];exact s1 b o q
   ·rw[mX ps _ _ ok.nd];exact zqd
   ·rw[jM,ev,KP,hry];exact(iN _ _).symm
  ·rintro σ H1 ⟨x,ps,rfl,s1,hD1,ok,dv,ev⟩;rw[hR.1,K2] at ev;rw[hR.1] at ok;refine⟨_,Z,D,kQ ps,Z,hD1,λob=>lJ (d:=D) (ob:=ob) (kvs:=kQ ps) (λj σ H'=>∃(u:V) (acc:R) (y4 y5:Option V),σ=[some (.ref a),some (.ref D),x,some u,y4,y5]/\aC H H'/\H' D=some (.frz ob (.dK (kQ ps)))/\RV K H' u acc/\Bq D₀ (64*2^n*j) acc/\val acc=gU (ps.take j)) ⟨_,(0,1),none,none,Z,?_,zqd,⟨_,Z,T.q_NOUGHT _⟩,⟨by decide,by decide,⟨(D₀:Int),by show(D₀:Int)=1*D₀;omega⟩,by show 0≤_;exact KJ _⟩,gT⟩ (λi σ H1 ⟨_,_,_,_,_,_,z,_⟩=>z) ?_ ?_⟩
   ·intro b o q;rw[ak (aB q hDn)];exact s1 b o q
   ·rintro j kk v p σ H2 hkv ⟨u,acc,y4,y5,rfl,s2,hD2,r2,w2,ev2⟩ hp;have hkv':(ps.map λp=>((KN p.1:cv),V.int p.2))[j]?=some (kk,v):=hkv;rw[Kt] at hkv';obtain⟨q,hq,e⟩:=LR.mp hkv'
    cases e
    have mq:=Ke hq;have hjl:=(Kg.mp hq).1;have wq:=ok.wf (by omega) mq;have lps:=ok.len;have gq:=xx ok dv hlen mq;have wa:=yf w2 (by omega) h0 hDn₀;have bq:=ok.bot q mq;have e1:=ai hp (.tup [kV (KN q.1),V.int q.2]);refine⟨p,_,Z,bH.of zqd,Z,_,_,Z,_,_,Z,Z,?_⟩;refine⟨_,Z,_,Z,_,Z,q.2,q.1,Z,bq.1,aV bq.2 (by omega),λp1 g1=>?_⟩;have e2:=ai g1 (.tup [.int (dk q.2 q.1).1,.int (dk q.2 q.1).2]);refine⟨u,.ref p1,acc,dk q.2 q.1,2*n+12,n+8,Z,(r2.mono (aT.same e1)).mono (aT.same e2),RV.of zqd,wa,wq,by omega,λp2 g2=>?_⟩;have e3:=ai g2 (.tup [.int (bj acc (dk q.2 q.1)).1,.int (bj acc (dk q.2 q.1)).2]);have s3:=((e1.trans e2).trans e3);refine⟨_,bj acc (dk q.2 q.1),_,_,Z,s2.trans s3,s3 _ _ hD2,RV.of zqd,(by rw[R6];exact Bq.plus h0 w2 gq),?_⟩;rw[fY w2.pos wq.pos,iO bq.1,ev2,KP,hq];exact(iR _ _).symm
   ·rintro σ H2 ⟨u,acc,y4,y5,rfl,s2,hD2,r2,w2,ev2⟩;have el:(kQ ps).length=ps.length:=J7 _;rw[el,K2] at ev2;have es:=uD (λr hr=>(hWD r hr).1.red) w2.red (ev2.trans ev);rw[es] at r2;exact⟨_,Z,k u H2 s2 r2⟩
theorem CF(T:eS K mg t):bu P w K mg base dP 2 t.a_Q13 t.d_Q13 ["some"] (jO K):=by
 refine T.F_Q13.ok mT (λvs H Q E h=>?_) (λcdv A outer s H vs Q E hr h=>?_)
 ·obtain⟨_,_,_,_,rfl,_⟩:=h;rfl
 obtain⟨a,xs,rs,D₀,rfl,hS,al,hn,d0,d1,ok,k⟩:=h;refine dj.ok (ae (cz 1 mT.nd ah) (ae (bT KD Z (cm (qv 0)) (aA (i:=2) mT.nd Z (by first|exact KW Z|exact KR Z)) (aj (cz 1 mT.nd (aD bi (qv 1) (aD c6 (bL ay (qv 2) ah) (cQ (lF T) hr T.m_Q2 T.F_Q2.kp T.b_Q2 (aa (qv 1) (aa (bL ay (qv 2) ah) af aQ) ac))))))) (aj (aM (bc (N':=["one","bottom"]) (src:=[none,some 1]) Z (by exact(cm (qv 0))) (λ_ _ _ _ _=>(by exact(by exact aA (i:=0) (by show KU (["one","bottom"]:List K1);decide +kernel) (by exact Z) (by first|exact KW Z|exact KR Z)))) (λ_ _ _ _ _=>ck) (λ_ _ _ _ _=>(by exact(by exact(aD bi (by exact(bG (cI (K:=K) (by exact Z)) (by exact(qv 0)) ah (by exact λ_ _=>Z))) (by exact(aD c6 (by exact(qv 1)) (by exact(bG (cI (K:=K) (by exact Z)) (by exact(qv 0)) ah (by exact λ_ _=>Z))))))))) (by exact⟨Z,Z,Z,Z,trivial⟩) Z (by decide +kernel) Z (by decide +kernel) (by exact aW Z ⟨Z,trivial⟩)))))) ?_
 nofun
 have hlen:=al.len;let Iv1:Nat->L2.St->Hp->Prop:=λi σ H'=>∃(B:Int) (x3:Option V),σ=[some (.ref a),some (.int B),x3]/\H'=H/\0<B/\B∣(D₀:Int)/\∀r∈rs.take i,r.2∣B
 refine⟨_,Z,a,Z,⟨_,hS⟩,cU (K:=K) (a:=a) (xs:=xs) Iv1 ⟨1,none,Z,Z,by decide,⟨(D₀:Int),by omega⟩,by simp⟩ (λi σ H1 _ ⟨_,_,_,e,_⟩=>by rw[e];exact hS) ?_ ?_⟩
 ·rintro i x σ H1 hx ⟨B,x3,rfl,rfl,b0,bd,all⟩;obtain⟨r,hr,px,rfl,hSx⟩:=al.at hx;obtain⟨c1,c2,c9⟩:=ok r (Ke hr);have c3:=Nu (by omega) c2;have B84:=Nu (by omega) bd;have g0:0<(KA B r.2:Int):=bR (by omega);have g1:(KA B r.2:Int)≤r.2:=Nu (by omega) (Nn _ _);obtain⟨l0,l1,l2,l3⟩:=Gv b0 c1 bd c2;refine⟨_,Z,_,Z,px,_,_,_,Z,Z,hSx,Z,_,Z,_,Z,px,_,_,_,Z,Z,hSx,Z,B,r.2,Z,_,_,Z,Z,⟨g0,xX (by omega) (OF g1 c3) d1⟩,_,_,Z,Z,⟨xX (by omega) B84 d1,xX (Og (by omega) (by omega)) (OF (OO _ (by omega)) c3) d1⟩,?_⟩;refine⟨_,_,Z,Z,l0,l1,λz hz=>?_⟩;rw[KP,hr] at hz;rcases KG.mp hz with h|h
  ·exact NU (all z h) l2
  ·have:z=r:=by simpa using h
   subst this;exact l3
 ·rintro σ H1 ⟨B,x3,rfl,rfl,b0,bd,all⟩;rw[hlen,K2] at all;have B84:=Nu (by omega) bd;refine⟨_,Z,a,Z,⟨_,hS⟩,λD hD=>bY (ic hS) (λ_=>true) (λi=>V.int ((A0 B rs).getD i 0)) hD (by omega) (λi x H' hi s' hx R E kR kE=>?_) λH4 s4 h4=>?_⟩
  ·obtain⟨r,hr,px,rfl,hSx⟩:=al.at hx;obtain⟨c1,c2,c9⟩:=ok r (Ke hr);have c3:=Nu (by omega) c2;have t':=aT.same (K:=K) s';have e:(A0 B rs).getD i 0=r.1*(B/r.2):=au 0 (by unfold A0;rw[Kt,hr];rfl);have q:=kR Z _ (aC.refl _);rw[e] at q;have e0:0≤B/r.2:=Og (by omega) (by omega);have e1:B/r.2≤B:=OO _ (by omega);exact⟨eU.set Z,_,Z,px,_,_,_,Z,Z,t' _ _ hSx,Z,_,Z,_,Z,px,_,_,_,Z,Z,t' _ _ hSx,Z,_,_,Z,Z,⟨by omega,xX (by omega) c3 d1⟩,_,_,Z,Z,⟨c9,xX e0 (OF e1 B84) d1⟩,q⟩
  ·refine k D B H4 s4 hD b0 bd all ?_;rw[h4,show xs.length=(A0 B rs).length by unfold A0;rw[J7];exact hlen,cP 0 V.int]
theorem ED(T:eS K mg t):bu P w K mg base dP 4 t.a_Q9 t.d_Q9 ["work","top","turns"] (jf K):=by
 refine T.F_Q9.ok uN (λvs H Q E h=>?_) (λcdv A outer s H vs Q E hr h=>?_)
 ·obtain⟨_,_,_,_,_,_,rfl,_⟩:=h;rfl
 obtain⟨v,u,q,w,tp,ls,rfl,⟨p,x,rfl,hS,rx⟩,ok,hu,ht,hq,k⟩:=h;refine dj.ok (ae (mV (i:=3) (N':=["turn","turns"]) (src:=[none,some 2]) uN.nd Z (by first|exact KW Z|exact KR Z) Z (by exact(gy Z T.z_range (aa (bL ay (qv 0) ah) (aa (aD cf (bL ay (qv 0) ah) ah) af aR) aQ))) (λ_ _ _ _ _=>(by exact(by exact aA (i:=0) (by show KU (["turn","turns"]:List K1);decide +kernel) (by exact Z) (by first|exact KW Z|exact KR Z)))) (λ_ _ _ _ _=>(cX (aN (fj (K:=K) (by exact Z)) (by exact(qv 0)) (by exact(qv 1)) (by with_unfolding_all rfl)))) (λ_ _ _ _ _=>(by exact(by exact(qv 0)))) (by exact⟨Z,Z,Z,Z,trivial⟩) Z (by decide +kernel) Z (by decide +kernel) (by exact aW Z ⟨Z,trivial⟩)) (ae (cz 4 uN.nd (cQ (Cl T) hr T.m_Q43 T.F_Q43.kp T.b_Q43 (aa (bL ay (qv 0) ah) (aa (cQ (qp T) hr T.m_Q44 T.F_Q44.kp T.b_Q44 (aa (qv 1) (aa (bv (aa (aH aI (by rfl) T.z_len LM (aa (qv 3) af ac)) (aa ah af aG) aK)) af bQ) ac)) af aK) aQ))) (ae (bF (cH (cQ (wK T) hr T.m_Q37 T.F_Q37.kp T.b_Q37 (aa (qv 4) (aa (dt (v:=.ref t.c_NOUGHT) Z T.m_NOUGHT Z) af ac) ac))) (aj (aM (dt (v:=.ref t.c_NOUGHT) Z T.m_NOUGHT Z))) aX) (aj (aM (qv 4)))))) ?_
 nofun
 have ole:=ok.le;have olt:=ok.lt;have e1:(((w.2.1:Nat):Int)+1-((w.1:Nat):Int)).toNat=w.2.1+1-w.1:=by omega
 refine⟨_,Z,p,_,_,_,Z,Z,hS,Z,_,Z,p,_,_,_,Z,Z,hS,Z,_,_,Z,Z,_,_,Z,?_,λD hD=>?_⟩
 ·refine⟨by omega,by omega,by omega,by omega⟩
 rw[e1];refine bY (fK (lo:=((w.1:Nat):Int))) (λi=>!ls.contains (w.1+i)) (λi=>V.int ((w.1:Nat)+(i:Nat):Int)) hD (by omega) (λi x H' hi s' hx R E kR kE=>?_) λH4 s4 h4=>?_
 ·subst hx;refine⟨eU.set Z,_,Z,_,Z,q,_,Z,.inr (aT.same (K:=K) s' _ _ hq),Z,?_,?_⟩
  ·unfold aF;rw[Qt];exact Mm.mpr λ_ _=>Z
  ·refine⟨_,Z,?_⟩;rw[show CW (V.int ((w.1:Nat)+(i:Nat):Int)) (aF ls)=ls.contains (w.1+i) from ny _ _]
   cases c:ls.contains (w.1+i) with
   |true=>exact cO (kE (by show(!ls.contains (w.1+i))=false;rw[c];rfl) _ (aC.refl _))
   |false=>exact hZ ⟨_,Z,kR (by show(!ls.contains (w.1+i))=true;rw[c];rfl) _ (aC.refl _)⟩
 have ln:(((J9 (w.2.1+1-w.1)).filter λi=>!ls.contains (w.1+i)).map λi=>V.int ((w.1:Nat)+(i:Nat):Int)).length=bZ ls w:=by rw[J7];rfl
 have t4:=aT.same (K:=K) s4;refine⟨_,Z,p,_,_,_,Z,Z,t4 _ _ hS,Z,_,Z,_,Z,D,_,Z,.inl (aO.of h4),gI,λp5 h5=>?_⟩;rw[ln];have s5:=ai h5 (.tup [.int (bZ ls w:Int),.int 1]);have r5:RV K (av H4 p5 (.tup [.int (bZ ls w:Int),.int 1])) (.ref p5) ((bZ ls w:Int),1):=RV.of zqd;generalize av H4 p5 (.tup [.int (bZ ls w:Int),.int 1])=H5 at s5 r5 ⊢;have o24:=qm (ls:=ls) olt;have wi:Wf 240 (((bZ ls w:Nat):Int),1):=((fo (i:=(bZ ls w:Int)) (n:=24) (by omega)).mono (MN _) (Kb _)).wf (by decide) (by decide) (by decide);have t5:=t4.trans (aT.same (K:=K) s5);refine⟨u,.ref p5,tp,(((bZ ls w:Nat):Int),1),240,240,Z,hu.mono t5,r5,di ht (by decide),wi,by decide,λp6 h6=>?_⟩;have s6:=ai h6 (.tup [.int (aJ tp (((bZ ls w:Nat):Int),1)).1,.int (aJ tp (((bZ ls w:Nat):Int),1)).2]);have r6:RV K _ (.ref p6) (aJ tp (((bZ ls w:Nat):Int),1)):=RV.of (zqd (H:=H5) (a:=p6) (o:=.tup [.int (aJ tp (((bZ ls w:Nat):Int),1)).1,.int (aJ tp (((bZ ls w:Nat):Int),1)).2]));have wt:Wf 240 (aJ tp (((bZ ls w:Nat):Int),1)):=di ((Bq.times ht (fo (i:=(bZ ls w:Int)) (n:=24) (by omega))).mono ⟨1,by decide⟩ (Kb _)) (by decide);refine⟨x,.ref p6,w.2.2,_,20,240,Z,rx.mono (t5.trans (aT.same s6)),r6,ok.am.wf (by decide) (by decide) (by decide),wt,by decide,λv7 H7 s7 r7=>?_⟩;have wr:=jt (ls:=ls) ht ok;have s17:=((s4.trans s5).trans s6).trans s7;refine⟨_,Z,v7,.ref t.c_NOUGHT,bU tp ls w,(0,1),240,1,Z,r7,⟨_,Z,T.q_NOUGHT _⟩,di wr (by decide),lZ,by decide,_,Z,?_⟩
 cases c0:cy (bU tp ls w) (0,1) with
 |true=>
  refine hZ ?_;refine k _ _ s17 ?_;rw[si c0];exact⟨_,Z,T.q_NOUGHT _⟩
 |false=>
  refine cO ⟨_,Z,?_⟩;refine k _ _ s17 ?_;rw[sg wr.red c0];exact r7
theorem Cz(T:eS K mg t):bu P w K mg base dP 5 t.a_Q19 t.d_Q19 ["works","hands","top","thing"] (mi K):=by
 refine T.F_Q19.ok uQ (λvs H Q E h=>?_) (λcdv A outer s H vs Q E hr h=>?_)
 ·obtain⟨_,_,_,_,_,_,_,rfl,_⟩:=h;rfl
 obtain⟨v,u,pc,ws,hn,tp,ls,rfl,a,lq,k⟩:=h;refine dj.ok (ae (bF (cZ (cH (cQ (CA T) hr T.m_Q18 T.F_Q18.kp T.b_Q18 (aa (qv 3) (aa (dt (v:=.int (24)) Z T.m_TURNS ⟨_,Z⟩) af ac) ac)))) (aj jY) aX) (ae (cz 4 uQ.nd (cQ (qp T) hr T.m_Q44 T.F_Q44.kp T.b_Q44 (aa (qv 2) (aa (bv (aa (aD g9 (qv 1) (aH aI (by rfl) T.z_len LM (aa (qv 3) af ac))) (aa ah af aG) aR)) af bQ) ac))) (ae (bF (cZ (cH (cQ (wK T) hr T.m_Q37 T.F_Q37.kp T.b_Q37 (aa (qv 4) (aa (cQ (Ck T) hr T.m_Q45 T.F_Q45.kp T.b_Q45 (aa (bc (N':=["work","top","thing"]) (src:=[none,some 2,some 3]) Z (by exact(db (qv 0))) (λ_ _ _ _ _=>(by exact(by exact aA (i:=0) (by show KU (["work","top","thing"]:List K1);decide +kernel) (by exact Z) (by first|exact KW Z|exact KR Z)))) (λ_ _ _ _ _=>ck) (λ_ _ _ _ _=>(by exact(by exact(gz (ED T) (by exact hr.mono (by decide)) (by exact Z) T.m_Q9 T.F_Q9.kp T.b_Q9 (by exact .nil) (by exact dW) (aa (by exact(qv 0)) (aa (by exact(qv 1)) (aa (by exact(qv 2)) af ac) ac) ac))))) (by exact⟨Z,Z,Z,Z,⟨Z,Z,Z,Z,trivial⟩⟩) Z (by decide +kernel) Z (by decide +kernel) (by exact aW Z ⟨Z,⟨Z,trivial⟩⟩)) af cW)) af aK) ac)))) (aj jY) aX) (aj (aM c8))))) ?_
 nofun
 have hC:=a.hC;have l24:=a.l24;refine⟨_,Z,.ref pc,zP ls,Z,kx hC,(by show(ls.map _).length≤24;rw[J7];exact l24),λH1 s1=>⟨_,Z,?_⟩⟩;rw[BC a.srt a.lt];refine cO ?_;have nl:(aF ls).length=ls.length:=J7 _;have t1:=aT.same (K:=K) s1;refine⟨_,Z,_,Z,_,Z,pc,_,Z,.inr (t1 _ _ hC),_,_,Z,Z,.inl ⟨by have:=a.h9;omega,by have:=a.h9;omega⟩,gI,λp2 h2=>?_⟩;have en:(hn:Int)*((aF ls).length:Int)=((hn*ls.length:Nat):Int):=by rw[nl];exact(NL _ _).symm
 dsimp only;rw[en];have s2:=ai h2 (.tup [.int ((hn*ls.length:Nat):Int),.int 1]);have r2:RV K (av H1 p2 (.tup [.int ((hn*ls.length:Nat):Int),.int 1])) (.ref p2) (((hn*ls.length:Nat):Int),1):=RV.of zqd;generalize av H1 p2 (.tup [.int ((hn*ls.length:Nat):Int),.int 1])=H2 at s2 r2 ⊢;have t2:=t1.trans (aT.same (K:=K) s2);have m9:hn*ls.length≤9*24:=Pk a.h9 l24;have wi:Wf 240 (((hn*ls.length:Nat):Int),1):=(fo (i:=((hn*ls.length:Nat):Int)) (n:=216) (by omega)).wf (by decide) (by decide) (by decide);refine⟨u,.ref p2,tp,(((hn*ls.length:Nat):Int),1),240,240,Z,a.rv.mono t2,r2,di a.tp (by decide),wi,by decide,λp3 h3=>?_⟩;have s3:=ai h3 (.tup [.int (c7 hn tp ls).1,.int (c7 hn tp ls).2]);have r3:RV K (av H2 p3 (.tup [.int (c7 hn tp ls).1,.int (c7 hn tp ls).2])) (.ref p3) (c7 hn tp ls):=RV.of zqd
 replace s3:aC H2 _:=s3
 generalize hG:av H2 p3 (.tup [.int (c7 hn tp ls).1,.int (c7 hn tp ls).2])=H3 at s3 r3;rw[show av H2 p3 (.tup [.int (aJ tp (((hn*ls.length:Nat):Int),1)).1,.int (aJ tp (((hn*ls.length:Nat):Int),1)).2])=H3 from hG];have s13:=(s1.trans s2).trans s3;have a3:=a.same s13;obtain⟨pw,xs,rfl,hS,al⟩:=a3.wv;have lx:=al.len;have w9:=a.w9;have hC3:=aT.same (K:=K) s13 _ _ hC;refine⟨_,Z,_,Z,pw,Z,⟨_,hS⟩,λD hD=>eF (K:=K) (P:=RV K) (ds:=ws) (f:=eP tp ls) (λ_ _ _ _ t p=>p.mono t) hD hS lx (by omega) (λi x w H' hx hd s' R E kR=>?_) λH4 ys s4 h4 al4=>?_⟩
 ·have t':=aT.same (K:=K) s';obtain⟨w',hw',wv⟩:=al.at hx;rw[hd] at hw'
  cases hw'
  exact⟨eU.set Z,_,Z,_,Z,_,Z,x,u,pc,w,tp,ls,Z,wv.mono t',a.ok w (Ke hd),a3.rv.mono t',a.tp,t' _ _ hC3,λv' H'' s'' r''=>kR v' H'' s'' r''⟩
 have bq:∀r∈ws.map (eP tp ls),Bq 279826853195846425060726789948611029097316354959409733296838400000 5196 r:=λr hr=>by
  obtain⟨w,hw,rfl⟩:=Kc.mp hr;exact qH a.tp (a.ok w hw)
 refine⟨D,ys,ws.map (eP tp ls),240,279826853195846425060726789948611029097316354959409733296838400000,Z,.inl (aO.of h4),Ai al4,λr hr=>⟨di (bq r hr) (by decide),(bq r hr).dvd⟩,by decide,by decide,by rw[J7];omega,by decide,λv5 H5 s5 r5=>?_⟩;have s15:=(s13.trans s4).trans s5;refine⟨.ref p3,v5,c7 hn tp ls,dS ws tp ls,240,240,Z,r3.mono (aT.same (s4.trans s5)),r5,di (mU a.tp a.h9 l24) (by decide),di (ie a.tp a.ok w9) (by decide),by decide,⟨_,Z,?_⟩⟩;rw[lq];refine cO ?_;exact k _ s15
theorem Cn(T:eS K mg t):bu P w K mg base dP 1 t.a_Q38 t.d_Q38 ["rows"] (pU K):=by
 refine T.F_Q38.ok qa (λvs H Q E h=>?_) (λcdv A outer s H vs Q E hr h=>?_)
 ·obtain⟨_,_,_,rfl,_⟩:=h;rfl
 obtain⟨a,xs,Rs,rfl,hS,al,l20,r24,k⟩:=h;refine dj.ok (ae (cz 1 qa.nd (bO af)) (ae (bT KD Z (bW Z T.z_range (aa (dt (v:=.int (24)) Z T.m_TURNS ⟨_,Z⟩) af ac)) (aA (i:=2) qa.nd Z (by first|exact KW Z|exact KR Z)) (aj (da (gQ Lr Ly Lz cF (qv 1) (aa (cE cV (by rfl) T.z_tuple NJ (aa (bc (N':=["number","row","turn"]) (src:=[none,none,some 2]) Z (by exact(oz Z T.z_enumerate (aa (qv 0) af ac))) (λ_ _ _ _ _=>(by exact(by exact jy (K:=K) (n:=2) (by exact Z) (by exact Z) (by exact bB (by exact aA (i:=0) (by show KU (["number","row","turn"]:List K1);decide +kernel) (by exact Z) (by first|exact KW Z|exact KR Z)) (by exact bB (by exact aA (i:=1) (by show KU (["number","row","turn"]:List K1);decide +kernel) (by exact Z) (by first|exact KW Z|exact KR Z)) dY))))) (λ_ _ _ _ _=>(cX (aN (zK (K:=K) (by exact Z) (by exact hr)) (by exact(bG (cL (K:=K) (by exact Z)) (by exact(qv 1)) (by exact(qv 2)) (by exact λ_ _=>Z))) (by exact(dt (v:=.ref t.c_NOUGHT) (by exact Z) T.m_NOUGHT Z)) (aU _)))) (λ_ _ _ _ _=>(by exact(by exact(bv (aa (by exact(qv 0)) (aa (by exact(bG (cL (K:=K) (by exact Z)) (by exact(qv 1)) (by exact(qv 2)) (by exact λ_ _=>Z))) af aQ) ac))))) (by exact⟨Z,Z,Z,Z,trivial⟩) Z (by decide +kernel) Z (by decide +kernel) (by exact aW Z ⟨Z,trivial⟩)) af cW)) af aK))))) (aj (aM (cE cV (by rfl) T.z_tuple NJ (aa (qv 1) af ac)))))) ?_
 nofun
 have hlen:=al.len;refine⟨(by show 0≤sizeLine;exact KJ _),λlp hlp=>?_⟩;have s1:=ai hlp (.lst []);have e1:av H lp (.lst []) lp=some (.lst []):=zqd;generalize av H lp (.lst [])=H1 at s1 e1 ⊢;have pl24:(zg Rs).length=24:=by unfold zg;rw[J7,KB]
 let Iv:Nat->L2.St->Hp->Prop:=λi σ H'=>∃(x2:Option V) (zs:List V),σ=[some (.ref a),some (.ref lp),x2]/\(∀c o,c≠lp->H1 c=some o->H' c=some o)/\H' lp=some (.lst zs)/\cK (AW K H') zs ((zg Rs).take i)
 refine⟨24,Z,by decide,by decide,cG (lo:=0) (n:=24) Iv ⟨none,[],Z,λ_ _ _ e=>e,e1,.nil⟩ ?_ ?_⟩
 ·rintro t σ H2 ht ⟨x2,zs,rfl,k2,e2,al2⟩;rw[MM];have s2:aC H H2:=λc o e=>k2 c o (aB e hlp) (s1 _ _ e)
  have zl:=al2.len;rw[K0] at zl;refine⟨_,Z,.inl ⟨Z,_,aO.of e2⟩,_,Z,a,Z,⟨_,s2.seq hS⟩,λD hD=>xU (K:=K) (qW (s2.seq hS)) (P:=Do K) (f:=λi=>((i,(Rs.getD i []).getD t (0,1)):Pc)) (p:=λi=>decide ((Rs.getD i []).getD t (0,1)≠(0,1))) (λ_ _ _ _ t p=>p.mono t) hD (by omega) (λi y H' hi s' hy R E kR kE=>?_) λH3 ys s3 hD3 al3=>?_⟩
  ·obtain⟨pe,y',rfl,hy',hpe⟩:=hy;obtain⟨rs,hrs,l,zs',rfl,hl,alr⟩:=al.at hy';have rl:=r24 rs (Ke hrs);have zl':=alr.len;have s0':=s2.trans s';obtain⟨xr,hxr⟩:∃xr,zs'[t]?=some xr:=⟨_,J6 (by omega)⟩;obtain⟨r,hr',rv⟩:=alr.at hxr;rw[au [] hrs,au (0,1) hr'] at kR kE;have rv':=rv.mono (aT.same s0');refine⟨pe,_,Z,bH.of hpe,Z,_,_,Z,_,_,Z,Z,(eU.set Z).set' Z,_,Z,_,Z,l,_,_,_,Z,Z,aO.of (s0' _ _ hl),aP hxr,dR r,dR (0,1),rv'.deep,(show RV K H' (.ref _) (0,1) from⟨_,Z,T.q_NOUGHT _⟩).deep,Z,Z,(by show 1≤32;decide),_,Z,?_⟩;rw[iz];by_cases c:r=(0,1)
   ·rw[decide_eq_true c];exact cO (kE (decide_eq_false λz=>z c) _ (aC.refl _))
   ·rw[decide_eq_false c];refine hZ ⟨_,Z,_,Z,_,Z,l,_,_,_,Z,Z,aO.of (s0' _ _ hl),aP hxr,gI,λq hq=>?_⟩;have s4:=ai hq (.tup [.int (i:Nat),xr]);exact kR (decide_eq_true c) _ _ s4 ⟨q,xr,Z,bH.of zqd,rv'.mono (aT.same s4)⟩
  refine⟨D,ys,Z,.inl ⟨aO.of hD3,λlt hlt=>?_⟩⟩;have s4:=ai hlt (.tup ys);have h4:AW K (av H3 lt (.tup ys)) (.ref lt) (((J9 Rs.length).filter λi=>decide ((Rs.getD i []).getD t (0,1)≠(0,1))).map λi=>((i,(Rs.getD i []).getD t (0,1)):Pc)):=⟨lt,ys,Z,bH.of zqd,by rw[hlen] at al3;exact al3.mono λ_ _ z=>z.mono (aT.same s4)⟩;have s34:=s3.trans s4;generalize av H3 lt (.tup ys)=H4 at s34 h4 ⊢;have e4:=s34 _ _ e2;refine⟨lp,_,_,Z,Z,e4,bf (by omega),?_⟩;have tu:=aT.up (K:=K) e4 (zs++[.ref lt]);refine⟨_,zs++[.ref lt],Z,λc o nc e=>by rw[ak nc];exact s34 _ _ (k2 c o nc e),zqd,?_⟩;have ei:(zg Rs)[t]?=some (((J9 Rs.length).filter λi=>decide ((Rs.getD i []).getD t (0,1)≠(0,1))).map λi=>((i,(Rs.getD i []).getD t (0,1)):Pc)):=by unfold zg;rw[Kt,Mb ht];rfl
  rw[KP,ei];exact(al2.mono λ_ _ z=>(z.mono (aT.same s34)).mono tu).snoc (h4.mono tu)
 ·rintro σ H2 ⟨x2,zs,rfl,k2,e2,al2⟩;rw[show(24:Nat)=(zg Rs).length from pl24.symm,K2] at al2;have s2:aC H H2:=λc o e=>k2 c o (aB e hlp) (s1 _ _ e)
  refine⟨_,Z,lp,_,Z,.inl ⟨aO.of e2,λlt hlt=>?_⟩⟩;have s3:=ai hlt (.tup zs);exact k _ _ (s2.trans s3) ⟨lt,zs,Z,bH.of zqd,al2.mono λ_ _ z=>z.mono (aT.same s3)⟩
theorem CD(T:eS K mg t):bu P w K mg base dP 1 t.a_Q14 t.d_Q14 ["_law_script","_law_k"] (jR K):=by
 refine T.F_Q14.ok Bo (λvs H Q E h=>?_) (λcdv A outer s H vs Q E hr h=>?_)
 ·obtain⟨_,_,_,rfl,_⟩:=h;rfl
 obtain⟨a,ns,k₀,rfl,hS,k⟩:=h;refine dj.ok (ae (bF (aN fV (qv 1) (aH aI (by rfl) T.z_len LM (aa (qv 0) af ac)) (aU _)) (aj (aM (bL ba (qv 0) (qv 1)))) aX) (aj (aM ah))) ?_
 nofun
 have hlm:((ns.map V.int).length:Int)=(ns.length:Int):=by rw[J7]
 refine⟨_,Z,_,Z,a,_,Z,.inl hS,_,_,Z,Z,_,Z,?_⟩;by_cases c:(k₀:Int)<((ns.map V.int).length:Int)
 ·refine cJ c ?_;obtain⟨z,hz⟩:=AL (ns:=ns) (r:=(k₀:Int)) (by omega) (by omega);exact⟨_,Z,_,Z,a,_,_,_,Z,Z,hS,hz,k z⟩
 ·exact cA c (k 0)
theorem Cw(T:eS K mg t):bu P w K mg base dP 1 t.a_Q21 t.d_Q21 ["_law_cell","_law_many"] (mD K):=by
 refine T.F_Q21.ok gc (λvs H Q E h=>?_) (λcdv A outer s H vs Q E hr h=>?_)
 ·obtain⟨_,_,rfl,_⟩:=h;rfl
 obtain⟨c,m,rfl,m0,m1,k⟩:=h;refine dj.ok (ae (cz 2 gc.nd (bO af)) (ae (cz 3 gc.nd ah) (ae (bF (aN wF (qv 0) (aD Ci ah ah) (aU _)) (aj (cz 3 gc.nd (qv 0))) aX) (ae (cz 4 gc.nd (aD cf (aD gf (qv 0) ah) ah)) (ae (bT KD Z (bW Z T.z_range (aa (qv 1) af ac)) (aA (i:=5) gc.nd Z (by first|exact KW Z|exact KR Z)) (ae (cz 4 gc.nd (aD gf (aD cf (aD cf (aD g9 (qv 4) (qv 4)) (aD g9 ah (qv 4))) (aD g9 ah (qv 5))) ah)) (aj (bF (aN ip (qv 3) ah (aU _)) (ae (da (gQ Lr Ly Lz cF (qv 2) (aa (aD gf (qv 3) ah) af aR))) (aj (cz 3 gc.nd (aD rJ (qv 3) ah)))) (aj (da (gQ Lr Ly Lz cF (qv 2) (aa (aD rJ (aD gf (aD cf (aD g9 (qv 4) ah) (aD g9 ah (qv 5))) ah) ah) af aR)))))))) (aj (aM (qv 2)))))))) ?_
 nofun
 refine⟨(by show 0≤sizeLine;exact KJ _),λl h0=>?_⟩;have s0:=ai h0 (.lst []);have q0:=Mx c (show(2147483629:Int)≠0 by decide);have q1:=MF c (show(0:Int)<2147483629 by decide);refine⟨_,Z,_,_,Z,Z,⟨by decide,by decide,by decide⟩,_,_,Z,Z,_,Z,CV (λ_=>?_) (λ_=>?_)⟩
 ·refine⟨_,Z,?_⟩;refine⟨_,Z,_,_,Z,Z,(by show(0:Int)<_;decide),_,_,Z,Z,?_⟩;refine⟨_,Z,m,Z,by omega,by omega,cG (lo:=0) (n:=(m:Int).toNat) (λi σ H'=>∃(ns:List Int) (num mx:Int) (x6:Option V),σ=[some (.int c),some (.int m),some (.ref l),some (.int num),some (.int mx),x6]/\aC H H'/\H' l=some (.lst (ns.map V.int))/\ns.length=i/\0≤mx/\mx<2147540000) ⟨[],c,_,none,Z,s0,zqd,Z,by omega,by omega⟩ ?_ ?_⟩
  ·rintro i σ H1 hi ⟨ns,num,mx,x6,rfl,s1,hl1,hn,x0,x1⟩;refine⟨_,Z,_,Z,_,_,Z,Z,.inl ⟨by omega,by omega⟩,_,Z,_,_,Z,Z,.inl ⟨by decide,by decide⟩,_,_,Z,Z,_,Z,_,_,Z,Z,.inl ⟨by decide,by decide⟩,_,_,Z,Z,_,_,Z,Z,(by show(0:Int)<_;decide),?_⟩;have y0:=Mx (mx*mx+48271*mx+7*(0+(i:Int))) (show(2147483647:Int)≠0 by decide);have y1:=MF (mx*mx+48271*mx+7*(0+(i:Int))) (show(0:Int)<2147483647 by decide);have fin:∀(z:Int),∃ns':List Int,av H1 l (.lst (ns.map V.int++[.int z])) l=some (.lst (ns'.map V.int))/\ns'.length=i+1:=λz=>⟨ns++[z],by rw[zqd,Ku];rfl,by rw[Ko,hn];rfl⟩
   have sm:∀o,aC H (av H1 l o):=λo b u e=>by rw[ak (aB e h0)];exact s1 _ _ e
   refine⟨_,Z,_,_,Z,Z,_,Z,CV (λ_=>?_) (λ_=>?_)⟩
   ·refine⟨_,Z,.inl ⟨Z,_,aO.of hl1⟩,_,Z,_,_,Z,Z,(by show(0:Int)<_;decide),l,_,_,Z,Z,hl1,bf (by rw[J7];omega),?_⟩;refine⟨_,Z,_,_,Z,Z,⟨by decide,by decide⟩,?_⟩;obtain⟨ns',e,el⟩:=fin (num%720720);exact⟨ns',_,_,_,Z,sm _,e,el,y0,by omega⟩
   ·refine⟨_,Z,.inl ⟨Z,_,aO.of hl1⟩,_,Z,_,_,Z,Z,.inr ⟨by decide,by decide⟩,_,Z,_,_,Z,Z,.inl ⟨by decide,by decide⟩,_,_,Z,Z,_,_,Z,Z,(by show(0:Int)<_;decide),_,_,Z,Z,⟨by decide,by decide⟩,l,_,_,Z,Z,hl1,bf (by rw[J7];omega),?_⟩;obtain⟨ns',e,el⟩:=fin (((mx*mx+48271*mx+7*(0+(i:Int)))%2147483647*69621+13*(0+(i:Int)))%2147483629/3);exact⟨ns',_,_,_,Z,sm _,e,el,y0,by omega⟩
  ·rintro σ H1 ⟨ns,num,mx,x6,rfl,s1,hl1,hn,x0,x1⟩;exact⟨_,Z,k l ns H1 s1 h0 hl1 (by rw[hn];omega)⟩
 ·refine⟨_,Z,_,_,Z,Z,(by show(0:Int)<_;decide),_,_,Z,Z,?_⟩;refine⟨_,Z,m,Z,by omega,by omega,cG (lo:=0) (n:=(m:Int).toNat) (λi σ H'=>∃(ns:List Int) (num mx:Int) (x6:Option V),σ=[some (.int c),some (.int m),some (.ref l),some (.int num),some (.int mx),x6]/\aC H H'/\H' l=some (.lst (ns.map V.int))/\ns.length=i/\0≤mx/\mx<2147540000) ⟨[],0,_,none,Z,s0,zqd,Z,by omega,by omega⟩ ?_ ?_⟩
  ·rintro i σ H1 hi ⟨ns,num,mx,x6,rfl,s1,hl1,hn,x0,x1⟩;refine⟨_,Z,_,Z,_,_,Z,Z,.inl ⟨by omega,by omega⟩,_,Z,_,_,Z,Z,.inl ⟨by decide,by decide⟩,_,_,Z,Z,_,Z,_,_,Z,Z,.inl ⟨by decide,by decide⟩,_,_,Z,Z,_,_,Z,Z,(by show(0:Int)<_;decide),?_⟩;have y0:=Mx (mx*mx+48271*mx+7*(0+(i:Int))) (show(2147483647:Int)≠0 by decide);have y1:=MF (mx*mx+48271*mx+7*(0+(i:Int))) (show(0:Int)<2147483647 by decide);have fin:∀(z:Int),∃ns':List Int,av H1 l (.lst (ns.map V.int++[.int z])) l=some (.lst (ns'.map V.int))/\ns'.length=i+1:=λz=>⟨ns++[z],by rw[zqd,Ku];rfl,by rw[Ko,hn];rfl⟩
   have sm:∀o,aC H (av H1 l o):=λo b u e=>by rw[ak (aB e h0)];exact s1 _ _ e
   refine⟨_,Z,_,_,Z,Z,_,Z,CV (λ_=>?_) (λ_=>?_)⟩
   ·refine⟨_,Z,.inl ⟨Z,_,aO.of hl1⟩,_,Z,_,_,Z,Z,(by show(0:Int)<_;decide),l,_,_,Z,Z,hl1,bf (by rw[J7];omega),?_⟩;refine⟨_,Z,_,_,Z,Z,⟨by decide,by decide⟩,?_⟩;obtain⟨ns',e,el⟩:=fin (num%720720);exact⟨ns',_,_,_,Z,sm _,e,el,y0,by omega⟩
   ·refine⟨_,Z,.inl ⟨Z,_,aO.of hl1⟩,_,Z,_,_,Z,Z,.inr ⟨by decide,by decide⟩,_,Z,_,_,Z,Z,.inl ⟨by decide,by decide⟩,_,_,Z,Z,_,_,Z,Z,(by show(0:Int)<_;decide),_,_,Z,Z,⟨by decide,by decide⟩,l,_,_,Z,Z,hl1,bf (by rw[J7];omega),?_⟩;obtain⟨ns',e,el⟩:=fin (((mx*mx+48271*mx+7*(0+(i:Int)))%2147483647*69621+13*(0+(i:Int)))%2147483629/3);exact⟨ns',_,_,_,Z,sm _,e,el,y0,by omega⟩
  ·rintro σ H1 ⟨ns,num,mx,x6,rfl,s1,hl1,hn,x0,x1⟩;exact⟨_,Z,k l ns H1 s1 h0 hl1 (by rw[hn];omega)⟩
theorem eJ(T:eS K mg t):bu P w K mg base dP 1 t.a_Q29 t.d_Q29 ["_law_tape","_law_many"] (nV K):=by
 refine T.F_Q29.ok Bi (λvs H Q E h=>?_) (λcdv A outer s H vs Q E hr h=>?_)
 ·obtain⟨_,_,_,rfl,_⟩:=h;rfl
 obtain⟨t₁,l,m,rfl,tp,hm0,hm1,k⟩:=h;refine dj.ok (ae (mW (aD cf (bL ba (qv 0) ah) ah) (vP (qv 0) ah fD)) (aj (aM (aD gf (bL ba (bL ba (qv 0) ah) (aD gf (aD de (bL ba (qv 0) ah) ah) (aH aI (by rfl) T.z_len LM (aa (bL ba (qv 0) ah) af aQ)))) (qv 1))))) ?_
 nofun
 obtain⟨ns,p,ht,hl,nl,n0,n1⟩:=tp.ex;refine⟨_,Z,t₁,_,_,_,Z,Z,aO.of ht,Z,_,_,Z,Z,_,Z,t₁,_,_,_,Z,Z,ht,Z,?_⟩;have hl':∀o,av H t₁ o l=some (.lst (ns.map V.int)):=λo=>by rw[ak nl];exact hl
 have hlm:((ns.map V.int).length:Int)=(ns.length:Int):=by rw[J7]
 obtain⟨z,hz⟩:=AL (ns:=ns) (r:=(p+1-1)%((ns.map V.int).length:Int)) (Mx _ (by omega)) (by have:=MF (p+1-1) (show(0:Int)<((ns.map V.int).length:Int) by omega);omega);refine⟨_,Z,t₁,_,_,_,Z,Z,aO.of zqd,Z,_,Z,t₁,_,_,_,Z,Z,aO.of zqd,Z,_,_,Z,Z,_,Z,t₁,_,_,_,Z,Z,aO.of zqd,Z,l,_,Z,.inl (aO.of (hl' _)),_,_,Z,Z,(by omega),l,_,_,_,Z,Z,aO.of (hl' _),hz,_,Z,_,_,Z,Z,hm0,?_⟩;exact k _ _ (Mx _ (by omega)) (MF _ hm0) ⟨ns,_,zqd,hl' _,nl,n0,n1⟩
theorem hJ(T:eS K mg t):bu P w K mg base dP 1 t.a_Q30 t.d_Q30 ["_law_top","_law_bottom"] (oa K):=by
 refine T.F_Q30.ok qb (λvs H Q E h=>?_) (λcdv A outer s H vs Q E hr h=>?_)
 ·obtain⟨_,_,rfl,_⟩:=h;rfl
 obtain⟨a,b,rfl,hb,hz,k⟩:=h;refine dj.ok (ae (vM (i:=2) (j:=3) Z qb.nd Z Z (by decide) Z Z (aa (aH kC (by rfl) T.z_abs boot_abs (aa (qv 0) af ac)) (aa (qv 1) af ac) aK) Z) (ae (fE KD (aN ip (qv 3) ah (aU _)) (aj (vM (i:=2) (j:=3) Z qb.nd Z Z (by decide) Z Z (aa (qv 3) (aa (aD gf (qv 2) (qv 3)) af aR) ac) Z))) (aj (aM (bv (aa (aD c6 (qv 0) (qv 2)) (aa (aD c6 (qv 1) (qv 2)) af aR) aR)))))) ?_
 nofun
 have gp:=bR (a:=a) hb;have gb:=kn (a:=a) hb hz;refine⟨_,Z,_,Z,_,Z,_,_,Z,?_⟩;rw[qN];refine⟨λm σ H'=>∃(x y:Int),σ=[some (.int a),some (.int b),some (.int x),some (.int y)]/\H'=H/\0≤x/\0≤y/\KA x y=KA a b/\m=y.toNat,⟨_,_,_,Z,Z,by omega,by omega,(by simp[KA]),Z⟩,?_⟩;rintro m σ H' ⟨x,y,rfl,rfl,hx,hy,hg,rfl⟩;refine⟨_,Z,_,_,Z,Z,_,Z,?_⟩;by_cases c:y=0
 ·subst c;refine cA (by decide) ?_;have e:(x:Int)=(KA x 0:Nat):=by simp[KA];omega
  rw[hg] at e;subst e;exact⟨_,Z,_,Z,_,_,Z,Z,⟨gp,gb⟩,_,Z,_,Z,_,_,Z,Z,⟨gp,gb⟩,gI,λp hp=>k p hp⟩
 ·refine cJ (by omega) ?_;refine⟨_,λ_ _ z=>z,?_⟩;refine⟨_,Z,_,Z,_,Z,_,_,Z,Z,(by omega),_,_,Z,?_⟩;refine⟨_,?_,y,x%y,Z,Z,hy,Mx _ c,?_,Z⟩
  ·have:=MF x (show 0<y by omega);have:=Mx x c;omega
  ·rw[oR hx (by omega),hg]
theorem qq(T:eS K mg t):bu P w K mg base dP 2 t.a_Q31 t.d_Q31 ["_law_one","_law_other"] (nX K):=by
 refine T.F_Q31.ok Bh (λvs H Q E h=>?_) (λcdv A outer s H vs Q E hr h=>?_)
 ·obtain⟨_,_,_,_,_,_,rfl,_⟩:=h;rfl
 obtain⟨v,w,r,q,n,m,rfl,hv,hw,wr,wq,hz,k⟩:=h;refine dj.ok (aj (aM (cQ (hJ T) hr T.m_Q30 T.F_Q30.kp T.b_Q30 (aa (aD cf (aD bi (bL ay (qv 0) ah) (bL ay (qv 1) ah)) (aD bi (bL ay (qv 1) ah) (bL ay (qv 0) ah))) (aa (aD bi (bL ay (qv 0) ah) (bL ay (qv 1) ah)) af aR) aR)))) ?_;nofun
 obtain⟨p,rfl,hv⟩:=hv;obtain⟨p',rfl,hw⟩:=hw;have c1:=aV wr.top (show n≤4000 by omega);have c2:=aV wr.bot (show n≤4000 by omega);have c3:=aV wq.top (show m≤4000 by omega);have c4:=aV wq.bot (show m≤4000 by omega);refine⟨_,Z,p,_,_,_,Z,Z,hv,Z,_,Z,p',_,_,_,Z,Z,hw,Z,_,_,Z,Z,⟨c1,c4⟩,_,Z,p',_,_,_,Z,Z,hw,Z,_,Z,p,_,_,_,Z,Z,hv,Z,_,_,Z,Z,⟨c3,c2⟩,_,_,Z,Z,_,Z,p,_,_,_,Z,Z,hv,Z,_,Z,p',_,_,_,Z,Z,hw,Z,_,_,Z,Z,⟨c2,c4⟩,_,_,Z,LJ wr.pos wq.pos,aV (hV wr.bot wq.bot) (by omega),k⟩
theorem Cv(T:eS K mg t):bu P w K mg base dP 2 t.a_Q22 t.d_Q22 ["_law_one","_law_other"] (mC K):=by
 refine T.F_Q22.ok Bl (λvs H Q E h=>?_) (λcdv A outer s H vs Q E hr h=>?_)
 ·obtain⟨_,_,_,_,_,_,rfl,_⟩:=h;rfl
 obtain⟨v,w,r,q,n,m,rfl,hv,hw,wr,wq,hz,k⟩:=h;refine dj.ok (aj (aM (cQ (hJ T) hr T.m_Q30 T.F_Q30.kp T.b_Q30 (aa (aD de (aD bi (bL ay (qv 0) ah) (bL ay (qv 1) ah)) (aD bi (bL ay (qv 1) ah) (bL ay (qv 0) ah))) (aa (aD bi (bL ay (qv 0) ah) (bL ay (qv 1) ah)) af aR) aR)))) ?_;nofun
 obtain⟨p,rfl,hv⟩:=hv;obtain⟨p',rfl,hw⟩:=hw;have c1:=aV wr.top (show n≤4000 by omega);have c2:=aV wr.bot (show n≤4000 by omega);have c3:=aV wq.top (show m≤4000 by omega);have c4:=aV wq.bot (show m≤4000 by omega);refine⟨_,Z,p,_,_,_,Z,Z,hv,Z,_,Z,p',_,_,_,Z,Z,hw,Z,_,_,Z,Z,⟨c1,c4⟩,_,Z,p',_,_,_,Z,Z,hw,Z,_,Z,p,_,_,_,Z,Z,hv,Z,_,_,Z,Z,⟨c3,c2⟩,_,_,Z,Z,_,Z,p,_,_,_,Z,Z,hv,Z,_,Z,p',_,_,_,Z,Z,hw,Z,_,_,Z,Z,⟨c2,c4⟩,_,_,Z,LJ wr.pos wq.pos,aV (hV wr.bot wq.bot) (by omega),k⟩
theorem j9(T:eS K mg t):bu P w K mg base dP 2 t.a_Q23 t.d_Q23 ["_law_one","_law_other"] (mz K):=by
 refine T.F_Q23.ok Bk (λvs H Q E h=>?_) (λcdv A outer s H vs Q E hr h=>?_)
 ·obtain⟨_,_,_,_,_,_,rfl,_⟩:=h;rfl
 obtain⟨v,w,r,q,n,m,rfl,hv,hw,wr,wq,hz,k⟩:=h;refine dj.ok (aj (aM (cQ (hJ T) hr T.m_Q30 T.F_Q30.kp T.b_Q30 (aa (aD bi (bL ay (qv 0) ah) (bL ay (qv 1) ah)) (aa (aD bi (bL ay (qv 0) ah) (bL ay (qv 1) ah)) af aR) aR)))) ?_;nofun
 obtain⟨p,rfl,hv⟩:=hv;obtain⟨p',rfl,hw⟩:=hw;have c1:=aV wr.top (show n≤4000 by omega);have c2:=aV wr.bot (show n≤4000 by omega);have c3:=aV wq.top (show m≤4000 by omega);have c4:=aV wq.bot (show m≤4000 by omega);refine⟨_,Z,p,_,_,_,Z,Z,hv,Z,_,Z,p',_,_,_,Z,Z,hw,Z,_,_,Z,Z,⟨c1,c3⟩,_,Z,p,_,_,_,Z,Z,hv,Z,_,Z,p',_,_,_,Z,Z,hw,Z,_,_,Z,Z,⟨c2,c4⟩,_,_,Z,LJ wr.pos wq.pos,aV (hV wr.bot wq.bot) (by omega),k⟩
theorem Cm(T:eS K mg t):bu P w K mg base dP 2 t.a_Q40 t.d_Q40 ["_law_one","_law_other"] (sY K):=by
 refine T.F_Q40.ok Bf (λvs H Q E h=>?_) (λcdv A outer s H vs Q E hr h=>?_)
 ·obtain⟨_,_,_,_,rfl,_⟩:=h;rfl
 obtain⟨v,w,r,z,rfl,hv,hw,wr,z0,DA,k⟩:=h;refine dj.ok (aj (aM (cQ (hJ T) hr T.m_Q30 T.F_Q30.kp T.b_Q30 (aa (aD bi (bL ay (qv 0) ah) (bL ay (qv 1) ah)) (aa (aD bi (bL ay (qv 0) ah) (bL ay (qv 1) ah)) af aR) aR)))) ?_;nofun
 obtain⟨p,rfl,hv⟩:=hv;obtain⟨p',rfl,hw⟩:=hw;have c1:=aV wr.top (show 60≤4000 by omega);have c2:=aV wr.bot (show 60≤4000 by omega);have c3:z.natAbs<2^4000:=K9 (show z.natAbs≤200 by omega) (by decide);have c4:(1:Int).natAbs<2^4000:=by decide
 have z5:z.natAbs<2^8:=K9 (show z.natAbs≤200 by omega) (by decide);exact⟨_,Z,p,_,_,_,Z,Z,hv,Z,_,Z,p',_,_,_,Z,Z,hw,Z,_,_,Z,Z,⟨c1,c4⟩,_,Z,p,_,_,_,Z,Z,hv,Z,_,Z,p',_,_,_,Z,Z,hw,Z,_,_,Z,Z,⟨c2,c3⟩,_,_,Z,LJ wr.pos z0,aV (hV wr.bot z5) (by omega),k⟩
theorem ka(T:eS K mg t):bu P w K mg base dP 1 t.a_Q15 t.d_Q15 ["_law_one","_law_other"] (jP K):=by
 refine T.F_Q15.ok Bn (λvs H Q E h=>?_) (λcdv A outer s H vs Q E hr h=>?_)
 ·obtain⟨_,_,_,_,_,_,rfl,_⟩:=h;rfl
 obtain⟨v,w,r,q,n,m,rfl,hv,hw,wr,wq,hz,k⟩:=h;refine dj.ok (aj (aM (jz fV (aD bi (bL ay (qv 0) ah) (bL ay (qv 1) ah)) (aD bi (bL ay (qv 1) ah) (bL ay (qv 0) ah)) (aU _)))) ?_;nofun
 obtain⟨p,rfl,hv⟩:=hv;obtain⟨p',rfl,hw⟩:=hw;have c1:=aV wr.top (show n≤4000 by omega);have c2:=aV wr.bot (show n≤4000 by omega);have c3:=aV wq.top (show m≤4000 by omega);have c4:=aV wq.bot (show m≤4000 by omega);refine⟨_,Z,p,_,_,_,Z,Z,hv,Z,_,Z,p',_,_,_,Z,Z,hw,Z,_,_,Z,Z,⟨c1,c4⟩,_,Z,p',_,_,_,Z,Z,hw,Z,_,Z,p,_,_,_,Z,Z,hv,Z,_,_,Z,Z,⟨c3,c2⟩,_,_,Z,Z,k⟩
theorem wM(T:eS K mg t):bu P w K mg base dP 3 t.a_Q24 t.d_Q24 ["_law_some"] (mn K):=by
 refine T.F_Q24.ok mS (λvs H Q E h=>?_) (λcdv A outer s H vs Q E hr h=>?_)
 ·obtain⟨_,_,_,rfl,_⟩:=h;rfl
 obtain⟨a,xs,rs,rfl,hS,al,bq,hl,k⟩:=h;refine dj.ok (ae (cz 1 mS.nd (bv (aa ah (aa ah af aG) aG))) (ae (bT KD Z (cm (qv 0)) (aA (i:=2) mS.nd Z (by first|exact KW Z|exact KR Z)) (aj (cz 1 mS.nd (cQ (qq T) hr T.m_Q31 T.F_Q31.kp T.b_Q31 (aa (qv 1) (aa (qv 2) af ac) ac))))) (aj (aM (qv 1))))) ?_
 nofun
 have hlen:=al.len;refine⟨gI,λp0 hp0=>?_⟩;have s0:=ai hp0 (.tup [.int 0,.int 1]);let Iv1:Nat->L2.St->Hp->Prop:=λi σ H'=>∃(u:V) (x3:Option V),σ=[some (.ref a),some u,x3]/\aC H H'/\RV K H' u (cN (rs.take i))
 refine⟨_,Z,a,Z,⟨_,s0.seq hS⟩,cU (K:=K) (a:=a) (xs:=xs) Iv1 ⟨_,none,Z,s0,RV.of zqd⟩ (λi σ H1 _ ⟨_,_,_,s1,_⟩=>s1.seq hS) ?_ ?_⟩
 ·rintro i y σ H1 hi ⟨u,x3,rfl,s1,ru⟩;obtain⟨r,hr,rv⟩:=al.at hi;have br:=bq r (Ke hr);have hil:=(Kg.mp hr).1;have wu:Wf 800 (cN (rs.take i)):=w8 ((gu (N:=256) (by decide) λx hx=>bq x (L0 hx)).mono (MN _) (by rw[K0];omega));have wr:Wf 800 r:=w8 (br.mono (MN _) (by decide));refine⟨_,Z,_,Z,u,y,cN (rs.take i),r,800,800,Z,ru,rv.mono (aT.same s1),wu,wr,by decide,λp hp=>?_⟩;have s2:=ai hp (.tup [.int (bj (cN (rs.take i)) r).1,.int (bj (cN (rs.take i)) r).2]);refine⟨_,_,Z,s1.trans s2,?_⟩;rw[uB hr];exact RV.of zqd
 ·rintro σ H1 ⟨u,x3,rfl,s1,ru⟩;rw[hlen,K2] at ru;exact⟨_,Z,k u H1 s1 ru⟩
theorem Cr(T:eS K mg t):bu P w K mg base dP 2 t.a_Q32 t.d_Q32 ["_law_some"] (nZ K):=by
 refine T.F_Q32.ok mR (λvs H Q E h=>?_) (λcdv A outer s H vs Q E hr h=>?_)
 ·obtain⟨_,_,_,rfl,_⟩:=h;rfl
 obtain⟨a,xs,rs,rfl,hS,al,wf,hl,k⟩:=h;refine dj.ok (ae (cz 1 mR.nd (bv (aa ah (aa ah af aG) aG))) (ae (bT KD Z (db (qv 0)) (aA (i:=2) mR.nd Z (by first|exact KW Z|exact KR Z)) (aj (bF (cH (cQ (ka T) hr T.m_Q15 T.F_Q15.kp T.b_Q15 (aa (qv 1) (aa (qv 2) af ac) ac))) (aj (cz 1 mR.nd (qv 2))) aX))) (aj (aM (qv 1))))) ?_
 nofun
 have hlen:=al.len;refine⟨gI,λp0 hp0=>?_⟩;have s0:=ai hp0 (.tup [.int 0,.int 1]);refine⟨_,Z,a,Z,⟨_,aT.same s0 _ _ hS⟩,iw (K:=K) (a:=a) (xs:=xs) (λi σ H'=>∃(u:V) (x3:Option V),σ=[some (.ref a),some u,x3]/\aC H H'/\RV K H' u ((rs.take i).foldl fF (0,1))/\Wf 60 ((rs.take i).foldl fF (0,1))) ⟨_,none,Z,s0,RV.of zqd,lZ.mono (by decide)⟩ (λi σ H1 _ ⟨_,_,_,s1,_⟩=>aT.same s1 _ _ hS) ?_ ?_⟩
 ·rintro i y σ H1 hi ⟨u,x3,rfl,s1,ru,wu⟩;obtain⟨r,hr,rv⟩:=al.at hi;have wr:=wf r (Ke hr);have e:(rs.take (i+1)).foldl fF (0,1)=fF ((rs.take i).foldl fF (0,1)) r:=by
   rw[KP,hr,NV];rfl
  rw[e];generalize (rs.take i).foldl fF (0,1)=m at ru wu ⊢;have ww:=EN wu wr;refine⟨_,Z,_,Z,u,y,m,r,60,60,Z,ru,rv.mono (aT.same s1),wu,wr,by decide,_,Z,?_⟩;unfold fF at ww ⊢
  cases c:cy m r with
  |true=>
   rw[c,if_pos Z] at ww;refine hZ ?_;exact⟨_,Z,y,_,Z,s1,(by rw[if_pos Z];exact rv.mono (aT.same s1)),(by rw[if_pos Z];exact ww)⟩
  |false=>
   refine cO ?_;exact⟨u,_,Z,s1,(by rw[if_neg Kj];exact ru),(by rw[if_neg Kj];exact wu)⟩
 ·rintro σ H1 ⟨u,x3,rfl,s1,ru,wu⟩;rw[hlen,K2] at ru;exact⟨_,Z,k u H1 s1 ru (by rw[hlen,K2] at wu;exact wu)⟩
theorem Cu(T:eS K mg t):bu P w K mg base dP 2 t.a_Q25 t.d_Q25 ["_law_tape","_law_most_here","_law_turns"] (mm K):=by
 refine T.F_Q25.ok eG (λvs H Q E h=>?_) (λcdv A outer s H vs Q E hr h=>?_)
 ·obtain⟨_,_,_,_,rfl,_⟩:=h;rfl
 obtain⟨t₁,l,mo,tu,rfl,tb,m0,m20,u1,u24,k⟩:=h;refine dj.ok (ae (cz 3 eG.nd (bO af)) (ae (bT KD Z (bW Z T.z_range (aa (cQ (eJ T) hr T.m_Q29 T.F_Q29.kp T.b_Q29 (aa (qv 0) (aa (aD cf (qv 1) ah) af aR) ac)) af aK)) (aA (i:=4) eG.nd Z (by first|exact KW Z|exact KR Z)) (ae (cz 5 eG.nd (cQ (eJ T) hr T.m_Q29 T.F_Q29.kp T.b_Q29 (aa (qv 0) (aa ah af aG) ac))) (ae (cz 6 eG.nd (cQ (eJ T) hr T.m_Q29 T.F_Q29.kp T.b_Q29 (aa (qv 0) (aa (qv 2) af ac) ac))) (ae (cz 7 eG.nd (aD cf (qv 6) (cQ (eJ T) hr T.m_Q29 T.F_Q29.kp T.b_Q29 (aa (qv 0) (aa (aD de (qv 2) (qv 6)) af aR) ac)))) (ae (jZ (bF (aN oG (qv 5) ah (aU _)) (aj (cz 7 eG.nd (qv 6))) aX)) (ae (jZ (bF (gP (vK (aN oG (qv 5) ah (aU _)) (rC (aN (fP hr) (qv 3) (bO af) (aU _))))) (aj (mW (im Ba (bL ba (qv 3) (cQ (eJ T) hr T.m_Q29 T.F_Q29.kp T.b_Q29 (aa (qv 0) (aa (aH aI (by rfl) T.z_len LM (aa (qv 3) af ac)) af aK) ac))) jx (jw ah)) (j0 Z (bB (aA (i:=6) eG.nd Z (by first|exact KW Z|exact KR Z)) (bB (aA (i:=7) eG.nd Z (by first|exact KW Z|exact KR Z)) dY))))) aX)) (ae (cz 8 eG.nd (bv (aa (aD cf ah (cQ (eJ T) hr T.m_Q29 T.F_Q29.kp T.b_Q29 (aa (qv 0) (aa ah af aG) ac))) (aa (bL ba (bO (aa ah (aa ah (aa ah (aa ah (aa ah (aa ah af aG) aG) aG) aG) aG) aG)) (cQ (eJ T) hr T.m_Q29 T.F_Q29.kp T.b_Q29 (aa (qv 0) (aa ah af aG) ac))) af aQ) aR))) (ae (jZ (bF (gP (vK (aN oG (qv 5) ah (aU _)) (rC (aN (fP hr) (qv 3) (bO af) (aU _))))) (aj (cz 8 eG.nd (bL ay (bL ba (qv 3) (cQ (eJ T) hr T.m_Q29 T.F_Q29.kp T.b_Q29 (aa (qv 0) (aa (aH aI (by rfl) T.z_len LM (aa (qv 3) af ac)) af aK) ac))) ah))) aX)) (aj (da (gQ Lr Ly Lz cF (qv 3) (aa (bv (aa (qv 6) (aa (qv 7) (aa (cQ (hJ T) hr T.m_Q30 T.F_Q30.kp T.b_Q30 (aa (bL ay (qv 8) ah) (aa (bL ay (qv 8) ah) af aQ) aQ)) af aK) ac) ac)) af bQ)))))))))))) (aj (aM (cE cV (by rfl) T.z_tuple NJ (aa (qv 3) af ac)))))) ?_
 nofun
 refine⟨(by show 0≤sizeLine;exact KJ _),λlw hlw=>?_⟩;have s1:=ai hlw (.lst []);have nt:lw≠t₁:=λz=>by obtain⟨ys,e⟩:=tb.lst;rw[←z,hlw] at e;cases e
 have nl:lw≠l:=λz=>by obtain⟨ys,e⟩:=tb.lst';rw[←z,hlw] at e;cases e
 have W1:Wl K H t₁ l lw (av H lw (.lst [])) []:=⟨nO.of s1,tb.same s1,⟨[],zqd,.nil⟩,nt,nl,hlw,λw h=>by cases h⟩;generalize av H lw (.lst [])=H1 at W1 ⊢;refine⟨_,Z,_,Z,_,_,Z,Z,t₁,l,mo+1,Z,W1.tb,by omega,by omega,λr2 x2 a2 b2 tb2=>?_⟩;have W2:=W1.tape tb2;generalize av H1 t₁ (.lst x2)=H2 at W2 ⊢;obtain⟨m,rfl⟩:=Lq a2;let Iv1:Nat->L2.St->Hp->Prop:=λi σ H'=>∃(x4 x5 x6 x7 x8:Option V) (ws:List Wk),σ=[some (.ref t₁),some (.int mo),some (.int tu),some (.ref lw),x4,x5,x6,x7,x8]/\Wl K H t₁ l lw H' ws/\ws.length=i
 refine⟨m,Z,by omega,by omega,cG (lo:=0) (n:=(m:Int).toNat) Iv1 ⟨none,none,none,none,none,[],Z,W2,Z⟩ ?_ ?_⟩
 ·rintro i σ H3 hi ⟨x4,x5,x6,x7,x8,ws,rfl,W3,wl⟩;refine⟨_,Z,t₁,l,6,Z,W3.tb,by omega,by omega,λrw_ x5' a5 b5 tb5=>?_⟩;have W5:=W3.tape tb5;generalize av H3 t₁ (.lst x5')=H5 at W5 ⊢;refine⟨_,Z,_,Z,t₁,l,tu,Z,W5.tb,by omega,by omega,λrf x6' a6 b6 tb6=>?_⟩;have W6:=W5.tape tb6;generalize av H5 t₁ (.lst x6')=H6 at W6 ⊢;refine⟨_,Z,_,Z,_,Z,_,Z,_,_,Z,Z,t₁,l,tu-rf,Z,W6.tb,by omega,by omega,λrl x7' a7 b7 tb7=>?_⟩;have W7:=W6.tape tb7;generalize av H6 t₁ (.lst x7')=H7 at W7 ⊢;refine⟨_,_,Z,Z,?_⟩;refine⟨λσ H'=>∃(f g:Int),σ=[some (.ref t₁),some (.int mo),some (.int tu),some (.ref lw),some (.int (0+(i:Nat))),some (.int rw_),some (.int f),some (.int g),x8]/\H'=H7/\0≤f/\f≤g/\g<24,?_,?_⟩
  ·refine⟨_,Z,Z,_,Z,?_⟩;by_cases c:rw_=0
   ·refine cJ (by rw[c]) ?_;exact⟨_,Z,rf,rf,Z,Z,a6,N6 _,by omega⟩
   ·refine cA (λz=>by injection z with z;exact c z) ?_;exact⟨rf,rf+rl,rfl,rfl,a6,by omega,by omega⟩
  rintro σ H7' ⟨f,g,rfl,rfl,f0,fg,g24⟩;clear a7 b7 a6 b6 rf rl a5 b5;refine⟨λσ H'=>∃(f g:Int),σ=[some (.ref t₁),some (.int mo),some (.int tu),some (.ref lw),some (.int (0+(i:Nat))),some (.int rw_),some (.int f),some (.int g),x8]/\Wl K H t₁ l lw H' ws/\0≤f/\f≤g/\g<24,?_,?_⟩
  ·refine⟨_,Z,Z,_,Z,?_⟩;by_cases c:rw_=1
   rotate_left
   ·refine cA (λz=>by injection z with z;exact c z) (cO ?_);exact⟨f,g,rfl,W7,f0,fg,g24⟩
   refine cJ (by rw[c]) ?_;refine⟨_,Z,(by show 0≤sizeLine;exact KJ _),λpe hpe=>?_⟩;have z8:=ai hpe (.lst []);have W8:=W7.same z8;have e8:av H7' pe (.lst []) pe=some (.lst []):=zqd;generalize av H7' pe (.lst [])=H8 at W8 e8 ⊢;obtain⟨zs,ez,alz⟩:=W8.hw;refine⟨.list (ws.map yy),.list [],.lst (aO.of ez) (alz.deep λ_ _ q=>q.deep),.lst (aO.of e8) .nil,xb ws,Z,xQ ws,_,Z,?_⟩;have ev:LD (.list (ws.map yy)) (.list [])=ws.isEmpty:=by cases ws<;>rfl
   rw[ev];by_cases hw:ws=[]
   ·refine rQ (b:=!ws.isEmpty) (by rw[hw];rfl) ?_;exact⟨f,g,Z,W8,f0,fg,g24⟩
   ·have wl1:0<ws.length:=Mv.mpr hw;have lz:=alz.len;refine xi (b:=!ws.isEmpty) (by rw[PL,Od];exact hw) ?_;refine⟨_,Z,_,Z,_,Z,lw,_,Z,.inl (aO.of ez),t₁,l,zs.length,Z,W8.tb,by omega,by omega,λr9 x9 a9 b9 tb9=>?_⟩;have W9:=W8.tape tb9;generalize av H8 t₁ (.lst x9)=H9 at W9 ⊢;obtain⟨zs9,ez9,al9⟩:=W9.hw;have lz9:=al9.len;obtain⟨n,rfl⟩:=Lq a9;obtain⟨xw,hxw⟩:∃xw,zs9[n]?=some xw:=⟨_,J6 (by omega)⟩;obtain⟨w,hwd,pw,xa,rfl,hSw,rw9⟩:=al9.at hxw;have gw:=W9.gd w (Ke hwd);refine⟨lw,_,_,_,Z,Z,aO.of ez9,aP hxw,_,Z,pw,_,Z,hSw,(by show ¬(HT.sIx 3 0 none=0/\HT.sIx 3 3 (some 2)=3);decide),λq hq=>?_⟩;have W10:=W9.same (ai hq (.tup [.int (w.1:Nat),.int (w.2.1:Nat)]));exact⟨q,_,Z,bH.of zqd,Z,_,_,Z,_,_,Z,Z,w.1,w.2.1,Z,W10,by omega,by have:=gw.1;omega,by have:=gw.2.1;omega⟩
  rintro σ H8 ⟨f,g,rfl,W8,f0,fg,g24⟩;refine⟨_,Z,t₁,l,12,Z,W8.tb,by omega,by omega,λr9 x9 a9 b9 tb9=>?_⟩;have W9:=W8.tape tb9;generalize av H8 t₁ (.lst x9)=H9 at W9 ⊢;refine⟨_,_,Z,Z,Ip,λpg hpg=>?_⟩;have e10:av H9 pg (.lst [.int 1,.int 1,.int 2,.int 3,.int 4,.int 7]) pg=some (.lst [.int 1,.int 1,.int 2,.int 3,.int 4,.int 7]):=zqd;have ng:pg≠t₁:=λz=>by obtain⟨ys,e⟩:=W9.tb.lst;rw[←z,hpg] at e;cases e
  have W10:=W9.same (ai hpg (.lst [.int 1,.int 1,.int 2,.int 3,.int 4,.int 7]));generalize av H9 pg (.lst [.int 1,.int 1,.int 2,.int 3,.int 4,.int 7])=H10 at e10 W10 ⊢;refine⟨_,Z,t₁,l,6,Z,W10.tb,by omega,by omega,λr4 x4' a4 b4 tb11=>?_⟩;have e11:av H10 t₁ (.lst x4') pg=some (.lst [.int 1,.int 1,.int 2,.int 3,.int 4,.int 7]):=by rw[ak ng];exact e10
  have W11:=W10.tape tb11;generalize av H10 t₁ (.lst x4')=H11 at e11 W11 ⊢;obtain⟨q,hg,q0,q7,q84⟩:∃q:Int,pD [V.int 1,.int 1,.int 2,.int 3,.int 4,.int 7] r4=some (.int q)/\1≤q/\q≤7/\q∣84:=by
   rcases(show r4=0∨r4=1∨r4=2∨r4=3∨r4=4∨r4=5 by omega) with rfl|rfl|rfl|rfl|rfl|rfl
   ·exact⟨1,Z,by decide,by decide,by decide⟩
   ·exact⟨1,Z,by decide,by decide,by decide⟩
   ·exact⟨2,Z,by decide,by decide,by decide⟩
   ·exact⟨3,Z,by decide,by decide,by decide⟩
   ·exact⟨4,Z,by decide,by decide,by decide⟩
   ·exact⟨7,Z,by decide,by decide,by decide⟩
  refine⟨pg,_,_,_,Z,Z,aO.of e11,hg,gI,λpm hpm=>?_⟩;have W12:=W11.same (ai hpm (.tup [.int (1+r9),.int q]));have p12:GH K (av H11 pm (.tup [.int (1+r9),.int q])) (.ref pm) (1+r9) q:=⟨pm,Z,bH.of zqd⟩;generalize av H11 pm (.tup [.int (1+r9),.int q])=H12 at W12 p12 ⊢;refine⟨λσ H'=>∃(u:V) (x y:Int),σ=[some (.ref t₁),some (.int mo),some (.int tu),some (.ref lw),some (.int (0+(i:Nat))),some (.int rw_),some (.int f),some (.int g),some u]/\Wl K H t₁ l lw H' ws/\GH K H' u x y/\1≤x/\1≤y/\y∣84/\x≤12*y,?_,?_⟩
  ·refine⟨_,Z,Z,_,Z,?_⟩;by_cases c:rw_=2
   rotate_left
   ·refine cA (λz=>by injection z with z;exact c z) (cO ?_);exact⟨_,_,_,rfl,W12,p12,by omega,q0,q84,by omega⟩
   refine cJ (by rw[c]) ?_;refine⟨_,Z,(by show 0≤sizeLine;exact KJ _),λpe hpe=>?_⟩;have z8:=ai hpe (.lst []);have W13:=W12.same z8;have e8:av H12 pe (.lst []) pe=some (.lst []):=zqd;have p13:GH K (av H12 pe (.lst [])) (.ref pm) (1+r9) q:=by
    obtain⟨p',e',s'⟩:=p12;exact⟨p',e',aT.same (K:=K) z8 _ _ s'⟩
   generalize av H12 pe (.lst [])=H13 at W13 e8 p13 ⊢;obtain⟨zs,ez,alz⟩:=W13.hw;refine⟨.list (ws.map yy),.list [],.lst (aO.of ez) (alz.deep λ_ _ q=>q.deep),.lst (aO.of e8) .nil,xb ws,Z,xQ ws,_,Z,?_⟩;have ev:LD (.list (ws.map yy)) (.list [])=ws.isEmpty:=by cases ws<;>rfl
   rw[ev];by_cases hw:ws=[]
   ·refine rQ (b:=!ws.isEmpty) (by rw[hw];rfl) ?_;exact⟨_,_,_,Z,W13,p13,by omega,q0,q84,by omega⟩
   ·have wl1:0<ws.length:=Mv.mpr hw;have lz:=alz.len;refine xi (b:=!ws.isEmpty) (by rw[PL,Od];exact hw) ?_;refine⟨_,Z,_,Z,_,Z,lw,_,Z,.inl (aO.of ez),t₁,l,zs.length,Z,W13.tb,by omega,by omega,λrE xE aE bE tbE=>?_⟩;have WE:=W13.tape tbE;generalize av H13 t₁ (.lst xE)=HE at WE ⊢;obtain⟨zsE,ezE,alE⟩:=WE.hw;have lzE:=alE.len;obtain⟨n,rfl⟩:=Lq aE;obtain⟨xw,hxw⟩:∃xw,zsE[n]?=some xw:=⟨_,J6 (by omega)⟩;obtain⟨w,hwd,pw,xa,rfl,hSw,rwE⟩:=alE.at hxw;have gw:=WE.gd w (Ke hwd);refine⟨lw,_,_,_,Z,Z,aO.of ezE,aP hxw,pw,_,_,_,Z,Z,hSw,Z,?_⟩;have b1:=gw.2.2.1.pos;have b2:=gw.2.2.1.le;have b3:=gw.2.2.2;exact⟨xa,_,_,Z,WE,rwE,by omega,by omega,gw.2.2.1.dvd,by omega⟩
  rintro σ HE ⟨u,x,y,rfl,WE,⟨pu,rfl,hSu⟩,x1,y1,y84,xy⟩;refine⟨_,Z,.inl ⟨Z,_,aO.of WE.hw.choose_spec.1⟩,_,Z,_,Z,_,Z,pu,_,_,_,Z,Z,hSu,Z,_,Z,pu,_,_,_,Z,Z,hSu,Z,x,y,Z,by omega,(by have:=Nu (by decide) y84;exact K9 (show y.natAbs≤84 by omega) (by decide)),λpn hpn=>?_⟩;have am:Bq 84 12 (dk x y):=se (by omega) y84 (by omega);have ap:=wX (a:=x) (b:=y) x1 y1;generalize dk x y=ra at am ap ⊢;have WF:=WE.same (ai hpn (.tup [.int ra.1,.int ra.2]));have rF:RV K (av HE pn (.tup [.int ra.1,.int ra.2])) (.ref pn) ra:=RV.of zqd;generalize av HE pn (.tup [.int ra.1,.int ra.2])=HF at WF rF ⊢;refine⟨Ir,λpo hpo=>?_⟩;have zG:=ai hpo (.tup [.int f,.int g,.ref pn]);have WG:=WF.same zG;have rG:=rF.mono (aT.same zG);have qG:av HF po (.tup [.int f,.int g,.ref pn]) po=some (.tup [.int f,.int g,.ref pn]):=zqd;generalize av HF po (.tup [.int f,.int g,.ref pn])=HG at WG rG qG ⊢;obtain⟨zs,ez,alz⟩:=WG.hw;have lz:=alz.len;refine⟨lw,_,_,Z,Z,ez,bf (by omega),?_⟩;obtain⟨f',rfl⟩:=Lq f0;obtain⟨g',rfl⟩:=Lq (show 0≤g by omega);exact⟨_,_,_,_,_,ws++[(f',g',ra)],Z,WG.push ez alz ⟨po,.ref pn,Z,bH.of qG,rG⟩ ⟨by show f'≤g';omega,by show g'<24;omega,am,ap⟩,by rw[Ko,wl];rfl⟩
 ·rintro σ H3 ⟨x4,x5,x6,x7,x8,ws,rfl,W3,wl⟩;obtain⟨zs,e,al⟩:=W3.hw;refine⟨_,Z,lw,zs,Z,.inl ⟨aO.of e,λpt hpt=>?_⟩⟩;have z:=ai hpt (.tup zs);exact k _ ws _ (W3.st.trans (nO.of z)) (W3.tb.same z) ⟨pt,zs,Z,bH.of zqd,al.mono λ_ _ q=>q.mono (aT.same z)⟩ (by omega) W3.gd
theorem wL(T:eS K mg t):bu P w K mg base dP 1 t.a_Q33 t.d_Q33 ["_law_works_here","_law_some","_law_rooms"] (oh K):=by
 refine T.F_Q33.ok mQ (λvs H Q E h=>?_) (λcdv A outer s H vs Q E hr h=>?_)
 ·obtain⟨_,_,_,_,_,_,rfl,_⟩:=h;rfl
 obtain⟨v,a,b,ws,L,fr,rfl,wv,hA,l20,hlt,hB,f24,k⟩:=h;refine dj.ok (ae (cz 3 mQ.nd (bO af)) (ae (bT KD Z (bW Z T.z_range (aa (aH aI (by rfl) T.z_len LM (aa (qv 2) af ac)) af aK)) (aA (i:=4) mQ.nd Z (by first|exact KW Z|exact KR Z)) (ae (cz 5 mQ.nd (aH aI (by rfl) T.z_len LM (aa (bc (N':=["_law_j","_law_turn","_law_works_here"]) (src:=[none,some 4,some 0]) Z (by exact(cm (qv 1))) (λ_ _ _ _ _=>(by exact(by exact aA (i:=0) (by show KU (["_law_j","_law_turn","_law_works_here"]:List K1);decide +kernel) (by exact Z) (by first|exact KW Z|exact KR Z)))) (λ_ _ _ _ _=>(cX (jX lE lE (by exact(bG (cI (K:=K) (by exact Z)) (by exact(bG (cI (K:=K) (by exact Z)) (by exact(qv 2)) (by exact(qv 0)) (by exact λ_ _=>Z))) ah (by exact λ_ _=>Z))) (by exact(qv 1)) (by exact(bG (cI (K:=K) (by exact Z)) (by exact(bG (cI (K:=K) (by exact Z)) (by exact(qv 2)) (by exact(qv 0)) (by exact λ_ _=>Z))) ah (by exact λ_ _=>Z)))))) (λ_ _ _ _ _=>(by exact(by exact(qv 0)))) (by exact⟨Z,Z,Z,Z,⟨Z,Z,Z,Z,trivial⟩⟩) Z (by decide +kernel) Z (by decide +kernel) (by exact aW Z ⟨Z,⟨Z,trivial⟩⟩)) af cW))) (aj (da (gQ Lr Ly Lz cF (qv 3) (aa (aH (ue Z) (by rfl) T.z_min boot_min (aa (qv 5) (aa (bL ba (qv 2) (qv 4)) af aQ) ac)) af aK)))))) (aj (aM (qv 3))))) ?_
 nofun
 obtain⟨pw,xs,rfl,hS,al⟩:=id wv;have hlen:=al.len;refine⟨(by show 0≤sizeLine;exact KJ _),λlf hlf=>?_⟩;have s1:=ai hlf (.lst []);have e1:av H lf (.lst []) lf=some (.lst (aF ((dJ (gW ws L) fr).take 0))):=zqd;generalize av H lf (.lst [])=H1 at s1 e1 ⊢;have fl:(aF fr).length=24:=by unfold aF;rw[J7,f24]
 have ll:(aF L).length=L.length:=J7 _;have bl:(dJ (gW ws L) fr).length=24:=by unfold dJ;rw[J7,KB,f24]
 let Iv1:Nat->L2.St->Hp->Prop:=λi σ H'=>∃(x4 x5:Option V),σ=[some (.ref pw),some (.ref a),some (.ref b),some (.ref lf),x4,x5]/\(∀c o,c≠lf->H1 c=some o->H' c=some o)/\H' lf=some (.lst (aF ((dJ (gW ws L) fr).take i)))
 refine⟨_,Z,b,_,Z,.inl (s1.seq hB),_,Z,by omega,by omega,cG (lo:=0) (n:=(((aF fr).length:Nat):Int).toNat) Iv1 ⟨none,none,Z,λ_ _ _ e=>e,e1⟩ ?_ ?_⟩
 ·rintro i σ H2 hi ⟨x4,x5,rfl,k2,e2⟩;rw[MM];have i24:i<24:=by omega
  have s2:aC H H2:=λc o e=>k2 c o (aB e hlf) (s1 _ _ e)
  refine⟨_,Z,a,Z,⟨_,s2.seq hA⟩,λD hD=>bY (ic (s2.seq hA)) (λp=>gL (ws.getD (L.getD p 0) cC) i) (λp=>V.int ((L.getD p 0:Nat):Int)) hD (by omega) (λp y H' hp s' hy R E kR kE=>?_) λH3 s3 h3=>?_⟩
  ·obtain⟨j,hj,rfl⟩:=dy hy;have jl:=hlt j (Ke hj);obtain⟨xw,hxw⟩:∃xw,xs[j]?=some xw:=⟨_,J6 (by omega)⟩;obtain⟨w,hw,pj,am,rfl,hpj,ram⟩:=al.at hxw;rw[au 0 hj,au cC hw] at kR kE;have t':=aT.same (K:=K) (s2.trans s');refine⟨eU.set Z,_,Z,_,Z,pw,_,_,_,Z,Z,t' _ _ hS,aP hxw,pj,_,_,_,Z,Z,t' _ _ hpj,Z,_,Z,_,_,Z,Z,_,Z,?_⟩;by_cases c:w.1≤i
   ·refine cJ (by omega) ?_;refine⟨_,Z,_,Z,pw,_,_,_,Z,Z,t' _ _ hS,aP hxw,pj,_,_,_,Z,Z,t' _ _ hpj,Z,_,_,Z,Z,_,Z,?_⟩;by_cases c2:i≤w.2.1
    ·exact cJ (by omega) ⟨_,Z,kR (dz.mpr ⟨c,c2⟩) _ (aC.refl _)⟩
    ·exact cA (by omega) (kE (by cases z:gL w i with|true=>exact absurd (dz.mp z).2 c2|false=>rfl) _ (aC.refl _))
   ·refine cA (by omega) ⟨_,Z,cO ?_⟩;exact kE (by cases z:gL w i with|true=>exact absurd (dz.mp z).1 c|false=>rfl) _ (aC.refl _)
  rw[ll] at h3;have e3:=s3 _ _ e2;have cn:(((J9 L.length).filter λp=>gL (ws.getD (L.getD p 0) cC) i).map λp=>V.int ((L.getD p 0:Nat):Int)).length=ca (gW ws L) i:=by
   have e:=iG 0 (λj=>gL (ws.getD j cC) i) (λj:Nat=>V.int (j:Int)) L;rw[e,J7];unfold ca gW;rw[Oj,J7];rfl
  have fi:(aF fr)[i]?=some (.int ((fr.getD i 0:Nat):Int)):=by
   unfold aF;rw[Kt,J6 (by omega:i<fr.length),au 0 (J6 (by omega:i<fr.length))];rfl
  refine⟨D,_,Z,.inl (aO.of h3),?_⟩;refine⟨_,Z,.inl ⟨Z,_,aO.of e3⟩,_,Z,_,Z,_,Z,b,_,_,_,Z,Z,(s2.trans s3).seq hB,aP fi,_,_,Z,lf,_,_,Z,Z,e3,bf (by unfold aF;rw[J7,K0];omega),?_⟩;refine⟨_,_,Z,λc o nc e=>by rw[ak nc];exact s3 _ _ (k2 c o nc e),?_⟩;rw[zqd,cn];have ei:(dJ (gW ws L) fr)[i]?=some (min (fr.getD i 0) (ca (gW ws L) i)):=by unfold dJ;rw[Kt,Mb (by omega)];rfl
  have ee:(if((fr.getD i 0:Nat):Int)<((ca (gW ws L) i:Nat):Int) then((fr.getD i 0:Nat):Int) else((ca (gW ws L) i:Nat):Int))=((min (fr.getD i 0) (ca (gW ws L) i):Nat):Int):=by
   split<;>omega
  rw[ee,KP,ei];unfold aF;rw[Ku];rfl
 ·rintro σ H2 ⟨x4,x5,rfl,k2,e2⟩;rw[show(((aF fr).length:Nat):Int).toNat=(dJ (gW ws L) fr).length by rw[bl,fl];rfl,K2] at e2;exact⟨_,Z,k lf H2 (λc o e=>k2 c o (aB e hlf) (s1 _ _ e)) hlf e2⟩
theorem Cq(T:eS K mg t):bu P w K mg base dP 1 t.a_Q34 t.d_Q34 ["_law_stay"] (nW K):=by
 refine T.F_Q34.ok mP (λvs H Q E h=>?_) (λcdv A outer s H vs Q E hr h=>?_)
 ·obtain⟨_,_,rfl,_⟩:=h;rfl
 obtain⟨a,ns,rfl,hA,n6,k⟩:=h;refine dj.ok (ae (cz 1 mP.nd (bO (aa (bO af) af uF))) (ae (bT KD Z (cm (qv 0)) (aA (i:=2) mP.nd Z (by first|exact KW Z|exact KR Z)) (aj (cz 1 mP.nd (aD mZ (qv 1) (bc (N':=["_law_some","_law_j"]) (src:=[none,some 2]) Z (by exact(cm (qv 1))) (λ_ _ _ _ _=>(by exact(by exact aA (i:=0) (by show KU (["_law_some","_law_j"]:List K1);decide +kernel) (by exact Z) (by first|exact KW Z|exact KR Z)))) (λ_ _ _ _ _=>ck) (λ_ _ _ _ _=>(by exact(by exact(aD mZ (by exact(qv 0)) (by exact(bO (aa (by exact(qv 1)) af ac))))))) (by exact⟨Z,Z,Z,Z,trivial⟩) Z (by decide +kernel) Z (by decide +kernel) (by exact aW Z ⟨Z,trivial⟩)))))) (aj (aM (im mM (qv 1) (jw ah) jx))))) ?_
 nofun
 refine⟨(by show 0≤sizeLine;exact KJ _),λp0 hp0=>⟨yA,λl0 hl0=>?_⟩⟩;have s1:=ai hp0 (.lst []);have s2:=ai hl0 (.lst [.ref p0]);have e1:av (av H p0 (.lst [])) l0 (.lst [.ref p0]) p0=some (.lst (aF [])):=s2 _ _ zqd;have e2:av (av H p0 (.lst [])) l0 (.lst [.ref p0]) l0=some (.lst [.ref p0]):=zqd;have s12:=s1.trans s2;generalize av (av H p0 (.lst [])) l0 (.lst [.ref p0])=H1 at s12 e1 e2 ⊢;have nl:(aF ns).length=ns.length:=J7 _;let Iv1:Nat->L2.St->Hp->Prop:=λi σ H'=>∃(l:Addr) (ys:List V) (x2:Option V),σ=[some (.ref a),some (.ref l),x2]/\aC H H'/\H' l=some (.lst ys)/\cK (Fm H') ys (dU (ns.take i))
 refine⟨_,Z,a,Z,⟨_,s12.seq hA⟩,cU (K:=K) (a:=a) (xs:=aF ns) Iv1 ⟨l0,_,none,Z,s12,e2,.cons ⟨p0,Z,e1⟩ .nil⟩ (λi σ H' _ ⟨_,_,_,_,s',_⟩=>s'.seq hA) ?_ ?_⟩
 ·rintro i x σ H2 hx ⟨l,ys,x2,rfl,s2,e2,al2⟩;obtain⟨j,hj,rfl⟩:=dy hx;have il:=(Kg.mp hj).1;have sl:=al2.len;have e64:(dU (ns.take i)).length≤32:=by
   rw[jV Z,K0,SI (by omega)];exact Li (n:=2) (by decide) (show i≤5 by omega)
  have sml:∀L∈dU (ns.take i),L.length≤6:=λL hL=>by
   have:=((dH Z).mp hL).length_le;rw[K0] at this;omega
  refine⟨_,Z,_,Z,l,Z,⟨_,aO.of e2⟩,λD hD=>kA (J:=yt K l) (n:=ys.length) (λi' zs H'=>H' D=some (.lst zs)/\aC H2 H'/\cK (λv L=>∃p,v=.ref p/\p≠D/\H' p=some (.lst (aF L))) zs (((dU (ns.take i)).take i').map (·++[j]))) ⟨zqd,ai hD _,.nil⟩ (λi' zs H' hi ⟨_,s',_⟩=>⟨ys,_,aO.of (s' _ _ e2),J6 hi⟩) (λzs H' ⟨d',s',al'⟩=>⟨⟨ys,aO.of (s' _ _ e2),Kb _⟩,?_⟩) ?_⟩
  ·rw[sl,K2] at al';have zl:=al'.len;rw[J7] at zl;refine⟨l,D,ys,zs,Z,Z,s' _ _ e2,d',(by rw[MO];omega),λl3 hl3=>?_⟩;have s3:=ai hl3 (.lst (ys++zs));refine⟨l3,_,_,Z,(s2.trans s').trans s3,zqd,?_⟩;rw[KP,hj];show cK _ (ys++zs) (dU (ns.take i++[j]));rw[gx];exact cK.app (al2.mono λ_ _ z=>z.same (s'.trans s3)) (al'.mono λ_ _ ⟨p,e,_,q⟩=>⟨p,e,s3 _ _ q⟩)
  ·rintro i' zs H3 y H4 hi ⟨d3,s3,al3⟩ ⟨rfl,hy⟩ R E kR kE;have hy:=hy ys (aO.of (s3 _ _ e2));obtain⟨L,hL,p,rfl,hp⟩:=al2.at hy;have lL:=sml L (Ke hL);refine⟨eU.set Z,?_⟩;refine⟨_,Z,_,Z,yA,λq hq=>?_⟩;have s4:=ai hq (.lst [.int (j:Nat)]);refine⟨p,q,_,_,Z,Z,s4 _ _ (s3 _ _ hp),zqd,(by unfold aF;rw[J7,MO];show L.length+1≤_;omega),λr hr=>?_⟩;have s5:=ai hr (.lst (aF L++[.int (j:Nat)]));have s45:=s4.trans s5;have e5:av (av H4 q (.lst [.int (j:Nat)])) r (.lst (aF L++[.int (j:Nat)])) r=some (.lst (aF (L++[j]))):=by rw[zqd];unfold aF;rw[Ku];rfl
   generalize av (av H4 q (.lst [.int (j:Nat)])) r (.lst (aF L++[.int (j:Nat)]))=H5 at s45 e5 ⊢;have d5:=s45 _ _ d3;have nr:r≠D:=λz=>by
    have:=s4 _ _ d3;rw[←z,hr] at this
    cases this
   have zl:=al3.len;rw[J7,K0] at zl;refine kR (.ref r) H5 d5 (bf (by omega)) ⟨zqd,λb o e=>by rw[ak (aB e hD)];exact s45 _ _ (s3 _ _ e),?_⟩;rw[KP,hL,Ku];refine(al3.mono λ_ _ ⟨p,e,n,h⟩=>⟨p,e,n,by rw[ak n];exact s45 _ _ h⟩).snoc ⟨r,Z,nr,by rw[ak nr];exact e5⟩
 ·rintro σ H2 ⟨l,ys,x2,rfl,s2,e2,al2⟩;rw[nl,K2] at al2;obtain⟨t,et,qt⟩:=lu (ns:=ns) Z;rw[et] at al2
  cases al2 with
  | @cons y _ ys' _ h tl=>
   refine⟨_,Z,_,Z,l,_,Z,aO.of e2,λl3 hl3=>?_⟩;rw[show ky (y::ys') (some 1) none=ys' from o1 (by show 1≤_+1;omega)];have s3:=ai hl3 (.lst ys');exact k l3 ys' t _ (s2.trans s3) zqd (tl.mono λ_ _ z=>z.same s3) et qt
theorem CC(T:eS K mg t):bu P w K mg base dP 4 t.a_Q16 t.d_Q16 ["_law_works_here","_law_stay","_law_rooms"] (jQ K):=by
 refine T.F_Q16.ok fN (λvs H Q E h=>?_) (λcdv A outer s H vs Q E hr h=>?_)
 ·obtain⟨_,_,_,_,_,_,rfl,_⟩:=h;rfl
 obtain⟨v,a,b,ws,ns,fr,rfl,wv,g,hA,n0,sr,hlt,hB,f24,pos,k⟩:=h;refine dj.ok (ae (cz 3 fN.nd (bv (aa ah (aa ah af aG) aG))) (ae (cz 4 fN.nd (bO af)) (ae (bT KD Z (cm (cQ (Cq T) hr T.m_Q34 T.F_Q34.kp T.b_Q34 (aa (qv 1) af ac))) (aA (i:=5) fN.nd Z (by first|exact KW Z|exact KR Z)) (ae (cz 6 fN.nd (aH (ub Z) (by rfl) T.z_sum boot_sum (aa (cQ (wL T) hr T.m_Q33 T.F_Q33.kp T.b_Q33 (aa (qv 0) (aa (qv 5) (aa (qv 2) af ac) ac) ac)) af aK))) (ae (cz 7 fN.nd (cQ (wM T) hr T.m_Q24 T.F_Q24.kp T.b_Q24 (aa (bc (N':=["_law_j","_law_works_here"]) (src:=[none,some 0]) Z (by exact(cm (qv 5))) (λ_ _ _ _ _=>(by exact(by exact aA (i:=0) (by show KU (["_law_j","_law_works_here"]:List K1);decide +kernel) (by exact Z) (by first|exact KW Z|exact KR Z)))) (λ_ _ _ _ _=>ck) (λ_ _ _ _ _=>(by exact(by exact(bG (cI (K:=K) (by exact Z)) (by exact(bG (cI (K:=K) (by exact Z)) (by exact(qv 1)) (by exact(qv 0)) (by exact λ_ _=>Z))) ah (by exact λ_ _=>Z))))) (by exact⟨Z,Z,Z,Z,trivial⟩) Z (by decide +kernel) Z (by decide +kernel) (by exact aW Z ⟨Z,trivial⟩)) af cW))) (ae (jZ (bF (aN ip (aD bi (bL ay (qv 7) ah) (bL ay (qv 3) ah)) (aD bi (aD bi (bL ay (qv 3) ah) (qv 6)) (bL ay (qv 7) ah)) (aU _)) (ae (cz 3 fN.nd (cQ (Cm T) hr T.m_Q40 T.F_Q40.kp T.b_Q40 (aa (qv 7) (aa (bv (aa (qv 6) (aa ah af aG) ac)) af bQ) ac))) (aj (cz 4 fN.nd (bO af)))) aX)) (aj (bF (aN (wG hr) (qv 7) (cQ (j9 T) hr T.m_Q23 T.F_Q23.kp T.b_Q23 (aa (qv 3) (aa (bv (aa (qv 6) (aa ah af aG) ac)) af bQ) ac)) (aU _)) (aj (cz 4 fN.nd (aD mZ (qv 4) (qv 5)))) aX)))))) (aj (aM (bv (aa (qv 3) (aa (aH (gR (w:=w) Z Z) (by rfl) T.z_sorted SD (aa (cE (kB (w:=w) Z Z) (by rfl) T.z_set lQ (aa (qv 4) af ac)) af aK)) af aK) ac))))))) ?_
 nofun
 obtain⟨pw,xs,rfl,hS,al⟩:=id wv;have hlen:=al.len;have l6:=g.len;have nd:ns.Nodup:=sr.imp λh=>KM h
 have n6:ns.length≤ws.length:=fQ nd hlt;refine⟨gI,λp0 hp0=>?_⟩;have s1:=ai hp0 (.tup [.int 0,.int 1]);have r1:RV K (av H p0 (.tup [.int 0,.int 1])) (.ref p0) (0,1):=RV.of zqd;generalize av H p0 (.tup [.int 0,.int 1])=H1 at s1 r1 ⊢;refine⟨(by show 0≤sizeLine;exact KJ _),λl0 hl0=>?_⟩;have s2:=ai hl0 (.lst []);have e2:av H1 l0 (.lst []) l0=some (.lst (aF [])):=zqd;have r2:=r1.mono (aT.same s2);have s02:=s1.trans s2;clear s2;generalize av H1 l0 (.lst [])=H2 at s02 e2 r2 ⊢;refine⟨_,Z,a,ns,Z,s02.seq hA,by omega,λlS ys t H3 s3 e3 al3 et qt=>?_⟩;have sub:∀L∈t,L.Sublist ns:=λL hL=>(dH Z).mp (by rw[et];exact Km _ hL)
 have stI:∀M∈t,Dl ws fr M:=λM hM=>by
  have sM:=sub M hM;refine⟨λw hw=>?_,qt M hM,by have:=sM.length_le;omega,?_,f24⟩
  ·obtain⟨j,hj,rfl⟩:=Kc.mp hw;exact g.gd _ (eZ (hlt j (sM.subset hj)))
  ·cases M with
   |nil=>exact absurd Z (qt _ hM)
   |cons i M=>
    have:=v4 (S:=λj=>decide (j∈i::M)) f24 pos (sM.subset Kf) (decide_eq_true Kf);rw[gX nd sM] at this;exact this
 have tl:t.length≤63:=by
  have:=jV (ns:=ns) Z;rw[et,Lb] at this;have q:=Li (n:=2) (by decide) (show ns.length≤6 by omega);omega
 have yl:=al3.len;let Iv1:Nat->L2.St->Hp->Prop:=λi σ H'=>∃(vs:V) (lf:Addr) (x5 x6 x7:Option V) (sw:R) (fd:List Nat),σ=[some (.ref pw),some (.ref a),some (.ref b),some vs,some (.ref lf),x5,x6,x7]/\aC H3 H'/\RV K H' vs sw/\H' lf=some (.lst (aF fd))/\pF ws fr (t.take i) sw fd
 refine⟨lS,Z,⟨_,aO.of e3⟩,cU (K:=K) (a:=lS) (xs:=ys) Iv1 ⟨.ref p0,l0,none,none,none,(0,1),[],Z,aC.refl _,r2.mono (aT.same s3),s3 _ _ e2,C1⟩ (λi σ H' _ ⟨_,_,_,_,_,_,_,_,s',_⟩=>aO.of (s' _ _ e3)) ?_ ?_⟩
 ·rintro i x σ H4 hx ⟨vs,lf,x5,x6,x7,sw,fd,rfl,s4,rs,ef,F⟩;obtain⟨L,hL,pL,rfl,hpL⟩:=al3.at hx;have mL:=Ke hL;have il:=(Kg.mp hL).1;have sL:=sub L mL;have S:=stI L mL;have sl6:=S.len;have s04:=(s02.trans s3).trans s4;refine⟨_,Z,_,Z,_,Z,.ref pw,pL,b,ws,L,fr,Z,wv.mono (aT.same s04),aO.of (s4 _ _ hpL),by omega,λj hj=>hlt j (sL.subset hj),s04.seq hB,f24,λlb H5 s5 _ e5=>?_⟩;rw[gh] at e5;refine⟨lb,_,Z,aO.of e5,?_⟩;rw[rj,show(dJ (gW ws L) fr).sum=bP (gW ws L) fr from Z];have s05:=s04.trans s5;have p5:=s5 _ _ (s4 _ _ hpL);refine⟨_,Z,pL,Z,⟨_,aO.of p5⟩,λD hD=>lP (K:=K) (P:=RV K) (ds:=L) (f:=λj:Nat=>(ws.getD j cC).2.2) (λ_ _ _ _ t p=>p.mono t) hD (aO.of p5) (J7 _) (by omega) (λp y j H' hy hj s' R E kR=>?_) λH6 zs s6 hD6 al6=>?_⟩
  ·obtain⟨j',hj',rfl⟩:=dy hy;rw[hj] at hj'
   cases hj'
   have jl:=hlt j (sL.subset (Ke hj));obtain⟨xw,hxw⟩:∃xw,xs[j]?=some xw:=⟨_,J6 (by omega)⟩;obtain⟨w,hw,pj,am,rfl,hpj,ram⟩:=al.at hxw;rw[au cC hw] at kR;have t':=aT.same (K:=K) (s05.trans s');refine⟨eU.set Z,_,Z,_,Z,pw,_,_,_,Z,Z,t' _ _ hS,aP hxw,pj,_,_,_,Z,Z,t' _ _ hpj,Z,?_⟩;exact kR _ _ (aC.refl _) (ram.mono t')
  refine⟨D,zs,_,Z,aO.of hD6,al6,λr hr=>?_,by rw[J7];omega,λv7 H7 s7 rv7=>?_⟩
  ·obtain⟨j,hj,rfl⟩:=Kc.mp hr;exact(g.gd _ (eZ (hlt j (sL.subset hj)))).2.2.1.mono ⟨3331272061855314584056271308912036060682337559040592063057600000,by decide⟩ (by decide)
  rw[show cN (L.map λj:Nat=>(ws.getD j cC).2.2)=jp ws L by unfold jp gW;rw[KY];rfl] at rv7;obtain⟨ard,aev,abq⟩:=so S;have aw:Wf 60 (jp ws L):=abq.wf (by decide) (by decide) (by decide);have b200:bP (gW ws L) fr≤200:=by
   have:=xW (ws:=gW ws L) f24 (by rw[nC];exact sl6);omega
  have b0:=S.bz;have s47:=(s5.trans s6).trans s7;have rs7:=rs.mono (aT.same s47);have ef7:=s47 _ _ ef;have pL7:=s7 _ _ (s6 _ _ p5);have s37:=s4.trans s47;clear s47 s5 s6 s7 al6 hD6 e5 rs ef p5;obtain⟨pa,rfl,hpa⟩:=id rv7;obtain⟨ps,rfl,hps⟩:=id rs7;have bw:=E7 b200;refine⟨λσ H'=>∃(vs:V) (lf:Addr) (sw':R) (fd':List Nat),σ=[some (.ref pw),some (.ref a),some (.ref b),some vs,some (.ref lf),some (.ref pL),some (.int (bP (gW ws L) fr:Nat)),some (.ref pa)]/\aC H7 H'/\RV K H' vs sw'/\H' lf=some (.lst (aF fd'))/\(((jp ws L).1*sw.2>sw.1*(bP (gW ws L) fr:Int)*(jp ws L).2/\sw'=cq (gW ws L) fr/\fd'=[])∨(¬(jp ws L).1*sw.2>sw.1*(bP (gW ws L) fr:Int)*(jp ws L).2/\sw'=sw/\fd'=fd)),?_,?_⟩
  ·refine⟨_,Z,pa,_,_,_,Z,Z,hpa,Z,_,Z,ps,_,_,_,Z,Z,hps,Z,_,_,Z,Z,⟨aV aw.top (by decide),aV F.wf.bot (by decide)⟩,_,Z,ps,_,_,_,Z,Z,hps,Z,_,Z,_,_,Z,Z,⟨aV F.wf.top (by decide),aV bw.top (by decide)⟩,_,Z,pa,_,_,_,Z,Z,hpa,Z,_,_,Z,Z,⟨aV (hV F.wf.top bw.top) (by decide),aV aw.bot (by decide)⟩,_,_,Z,Z,_,Z,?_⟩;by_cases c:(jp ws L).1*sw.2>sw.1*(bP (gW ws L) fr:Int)*(jp ws L).2
   ·refine cJ c ?_;refine⟨_,Z,_,Z,gI,λq hq=>?_⟩;have s8:=ai hq (.tup [.int (bP (gW ws L) fr:Nat),.int 1]);have r8:RV K (av H7 q (.tup [.int (bP (gW ws L) fr:Nat),.int 1])) (.ref q) (((bP (gW ws L) fr:Nat):Int),1):=RV.of zqd;generalize av H7 q (.tup [.int (bP (gW ws L) fr:Nat),.int 1])=H8 at s8 r8 ⊢;refine⟨_,_,jp ws L,_,Z,rv7.mono (aT.same s8),r8,aw,by omega,by omega,λpb hpb=>?_⟩;have ep:FM (jp ws L) ((bP (gW ws L) fr:Nat):Int)=cq (gW ws L) fr:=Ae;rw[ep];have s9:=ai hpb (.tup [.int (cq (gW ws L) fr).1,.int (cq (gW ws L) fr).2]);have r9:RV K (av H8 pb (.tup [.int (cq (gW ws L) fr).1,.int (cq (gW ws L) fr).2])) (.ref pb) (cq (gW ws L) fr):=RV.of zqd;have s79:=s8.trans s9;clear s9;generalize av H8 pb (.tup [.int (cq (gW ws L) fr).1,.int (cq (gW ws L) fr).2])=H9 at s79 r9 ⊢;refine⟨(by show 0≤sizeLine;exact KJ _),λln hln=>?_⟩;have s10:=ai hln (.lst []);exact⟨_,ln,_,[],Z,s79.trans s10,r9.mono (aT.same s10),zqd,.inl ⟨c,Z,Z⟩⟩
   ·exact cA c ⟨_,lf,sw,fd,Z,aC.refl _,rs7,ef7,.inr ⟨c,Z,Z⟩⟩
  rintro σ H8 ⟨vs,lf8,sw',fd',rfl,s8,r8,e8,cs⟩;have wsw:Wf 60 sw'/\eh sw':=by
   rcases cs with⟨c,e,_⟩ | ⟨_,e,_⟩
   ·obtain⟨q1,q2,_⟩:=F.rise S (λM hM=>(stI M (L0 hM)).bz) c;rw[e];exact⟨q2,q1⟩
   ·rw[e];exact⟨F.wf,F.rd⟩
  refine⟨_,Z,_,Z,_,Z,gI,λq hq=>?_⟩;have s9:=ai hq (.tup [.int (bP (gW ws L) fr:Nat),.int 1]);have r9:RV K (av H8 q (.tup [.int (bP (gW ws L) fr:Nat),.int 1])) (.ref q) (((bP (gW ws L) fr:Nat):Int),1):=RV.of zqd;generalize av H8 q (.tup [.int (bP (gW ws L) fr:Nat),.int 1])=H9 at s9 r9 ⊢;refine⟨_,_,sw',_,60,8,Z,r8.mono (aT.same s9),r9,wsw.1,bw,by decide,λpt hpt=>?_⟩;have s10:=ai hpt (.tup [.int (aJ sw' (((bP (gW ws L) fr:Nat):Int),1)).1,.int (aJ sw' (((bP (gW ws L) fr:Nat):Int),1)).2]);have r10:RV K (av H9 pt (.tup [.int (aJ sw' (((bP (gW ws L) fr:Nat):Int),1)).1,.int (aJ sw' (((bP (gW ws L) fr:Nat):Int),1)).2])) (.ref pt) (aJ sw' (((bP (gW ws L) fr:Nat):Int),1)):=RV.of zqd;have s810:=s9.trans s10;clear s10;generalize av H9 pt (.tup [.int (aJ sw' (((bP (gW ws L) fr:Nat):Int),1)).1,.int (aJ sw' (((bP (gW ws L) fr:Nat):Int),1)).2])=H10 at s810 r10 ⊢;have s710:=s8.trans s810;have e10:=s810 _ _ e8;refine⟨dR (jp ws L),dR (aJ sw' (((bP (gW ws L) fr:Nat):Int),1)),(rv7.mono (aT.same s710)).deep,r10.deep,Z,Z,(by show 1≤32;decide),_,Z,?_⟩;rw[iz];have ht:=sU S wsw.2;have tk:t.take (i+1)=t.take i++[L]:=by rw[KP,hL];rfl
  have bzs:∀M∈t.take i,0<bP (gW ws M) fr:=λM hM=>(stI M (L0 hM)).bz
  by_cases c:jp ws L=aJ sw' (((bP (gW ws L) fr:Nat):Int),1)
  ·rw[decide_eq_true c];refine hZ ?_;have F':pF ws fr (t.take (i+1)) sw' (fd'++L):=by
    rw[tk];rcases cs with⟨h,rfl,rfl⟩ | ⟨h,rfl,rfl⟩
    ·exact F.up S bzs h
    ·exact F.on S h (ht.mp c)
   have fl:=F'.len;rw[Ko,K0] at fl;refine⟨_,Z,_,Z,lf8,pL,_,_,Z,Z,e10,s710 _ _ pL7,(by unfold aF;rw[J7,J7,MO];omega),λl11 hl11=>?_⟩;have s11:=ai hl11 (.lst (aF fd'++aF L));refine⟨vs,l11,_,_,_,sw',fd'++L,Z,(s37.trans s710).trans s11,(r8.mono (aT.same s810)).mono (aT.same s11),?_,F'⟩;rw[zqd];unfold aF;rw[Ku]
  ·rw[decide_eq_false c];refine cO ?_;have F':pF ws fr (t.take (i+1)) sw' fd':=by
    rw[tk];rcases cs with⟨h,rfl,rfl⟩ | ⟨h,rfl,rfl⟩
    ·obtain⟨_,_,_,q,_⟩:=F.rise S bzs h;exact absurd (ht.mpr q.symm) c
    ·exact F.off S h λz=>c (ht.mpr z)
   exact⟨vs,lf8,_,_,_,sw',fd',Z,s37.trans s710,r8.mono (aT.same s810),e10,F'⟩
 ·rintro σ H4 ⟨vs,lf,x5,x6,x7,sw,fd,rfl,s4,rs,ef,F⟩;rw[yl,K2] at F;have fdn:∀j∈fd,j∈ns:=λj hj=>by
   obtain⟨L,hL,hj',_⟩:=(F.mem j).mp hj;exact(sub L hL).subset hj'
  have fl:=F.len;have ol:=wH nd fdn;rw[gh] at ef;refine⟨_,Z,_,Z,lf,_,Z,.inl (aO.of ef),by rw[J7];omega,λls hls=>?_⟩;refine⟨ls,_,Z,zqd,by omega,λl2 ms pm st hl2=>?_⟩;have s5:=ai hls (setO w ls (bC (fd.map λn:Nat=>(n:Int))));have s6:=ai hl2 (.lst (ms.map V.int));have e6:av (av H4 ls (setO w ls (bC (fd.map λn:Nat=>(n:Int))))) l2 (.lst (ms.map V.int)) l2=some (.lst (aF (ns.filter λj=>decide (j∈fd)))):=by rw[zqd,yH sr fdn pm st]
  have s46:=s5.trans s6;generalize av (av H4 ls (setO w ls (bC (fd.map λn:Nat=>(n:Int))))) l2 (.lst (ms.map V.int))=H6 at s46 e6 ⊢;refine⟨gI,λq hq=>?_⟩;have s7:=ai hq (.tup [vs,.ref l2]);exact k q l2 vs sw _ _ ((((s02.trans s3).trans s4).trans s46).trans s7) (bH.of zqd) ((rs.mono (aT.same s46)).mono (aT.same s7)) (s7 _ _ e6) (F.fst nd f24 pos n0 et qt) F.wf
theorem CB(T:eS K mg t):bu P w K mg base dP 5 t.a_Q17 t.d_Q17 ["_law_works_here","_law_hands"] (kK K):=by
 refine T.F_Q17.ok fh (λvs H Q E h=>?_) (λcdv A outer s H vs Q E hr h=>?_)
 ·obtain⟨_,_,_,rfl,_⟩:=h;rfl
 obtain⟨v,h₀,ws,rfl,wv,g,h1,h20,k⟩:=h;refine dj.ok (ae (cz 2 fh.nd (aD jA (bO (aa (qv 1) af ac)) ah)) (ae (cz 3 fh.nd (cE (qE Z) (by rfl) T.z_list Tt (aa (yT Z T.z_range (aa (aH aI (by rfl) T.z_len LM (aa (qv 0) af ac)) af aK)) af aK))) (ae (cz 4 fh.nd j3) (ae (fE KD (aN (fP hr) (qv 3) (bO af) (aU _)) (ae (mW (cQ (CC T) hr T.m_Q16 T.F_Q16.kp T.b_Q16 (aa (qv 0) (aa (qv 3) (aa (qv 2) af ac) ac) ac)) (j0 Z (bB (aA (i:=5) fh.nd Z (by first|exact KW Z|exact KR Z)) (bB (aA (i:=6) fh.nd Z (by first|exact KW Z|exact KR Z)) dY)))) (ae (cz 7 fh.nd (cQ (wL T) hr T.m_Q33 T.F_Q33.kp T.b_Q33 (aa (qv 0) (aa (qv 6) (aa (qv 2) af ac) ac) ac))) (ae (bT KD Z (cm (qv 6)) (aA (i:=8) fh.nd Z (by first|exact KW Z|exact KR Z)) (aj (ju (iu hr) (qv 4) (qv 8) (qv 5) Z))) (ae (cz 2 fh.nd (bc (N':=["_law_turn","_law_rooms","_law_busy_here"]) (src:=[none,some 2,some 7]) Z (by exact(bW Z T.z_range (aa (aH aI (by rfl) T.z_len LM (aa (qv 2) af ac)) af aK))) (λ_ _ _ _ _=>(by exact(by exact aA (i:=0) (by show KU (["_law_turn","_law_rooms","_law_busy_here"]:List K1);decide +kernel) (by exact Z) (by first|exact KW Z|exact KR Z)))) (λ_ _ _ _ _=>ck) (λ_ _ _ _ _=>(by exact(by exact(aD de (by exact(bG (cL (K:=K) (by exact Z)) (by exact(qv 1)) (by exact(qv 0)) (by exact λ_ _=>Z))) (by exact(bG (cL (K:=K) (by exact Z)) (by exact(qv 2)) (by exact(qv 0)) (by exact λ_ _=>Z))))))) (by exact⟨Z,Z,Z,Z,⟨Z,Z,Z,Z,trivial⟩⟩) Z (by decide +kernel) Z (by decide +kernel) (by exact aW Z ⟨Z,⟨Z,trivial⟩⟩))) (aj (mV (i:=3) (N':=["_law_j","_law_some"]) (src:=[none,some 6]) fh.nd Z (by first|exact KW Z|exact KR Z) Z (by exact(cm (qv 3))) (λ_ _ _ _ _=>(by exact(by exact aA (i:=0) (by show KU (["_law_j","_law_some"]:List K1);decide +kernel) (by exact Z) (by first|exact KW Z|exact KR Z)))) (λ_ _ _ _ _=>(cX (aN (fj (K:=K) (by exact Z)) (by exact(qv 0)) (by exact(qv 1)) (by with_unfolding_all rfl)))) (λ_ _ _ _ _=>(by exact(by exact(qv 0)))) (by exact⟨Z,Z,Z,Z,trivial⟩) Z (by decide +kernel) Z (by decide +kernel) (by exact aW Z ⟨Z,trivial⟩)))))))) (aj (aM (cE cV (by rfl) T.z_tuple NJ (aa (bc (N':=["_law_j","_law_speeds_here"]) (src:=[none,some 4]) Z (by exact(bW Z T.z_range (aa (aH aI (by rfl) T.z_len LM (aa (qv 0) af ac)) af aK))) (λ_ _ _ _ _=>(by exact(by exact aA (i:=0) (by show KU (["_law_j","_law_speeds_here"]:List K1);decide +kernel) (by exact Z) (by first|exact KW Z|exact KR Z)))) (λ_ _ _ _ _=>ck) (λ_ _ _ _ _=>(by exact(by exact(j4 (by exact iu hr) (by exact(qv 1)) (by exact(qv 0)) (by exact λ_ _=>Z))))) (by exact⟨Z,Z,Z,Z,trivial⟩) Z (by decide +kernel) Z (by decide +kernel) (by exact aW Z ⟨Z,trivial⟩)) af cW)))))))) ?_
 nofun
 obtain⟨pw,xs,rfl,hS,al⟩:=id wv;have hlen:=al.len;have l6:=g.len;refine⟨_,Z,yA,λl4 hl4=>?_⟩;have s4:=ai hl4 (.lst [.int (h₀:Nat)]);refine⟨l4,_,24,Z,Z,zqd,by decide,λlf hlf=>?_⟩;have s5:=ai hlf (.lst (Ki 24 (V.int (h₀:Nat))));have f5:av (av H l4 (.lst [.int (h₀:Nat)])) lf (.lst (Ki 24 (V.int (h₀:Nat)))) lf=some (.lst (aF (Ki 24 h₀))):=by rw[zqd];unfold aF;rw[Rz]
 have s05:=s4.trans s5;generalize av (av H l4 (.lst [.int (h₀:Nat)])) lf (.lst (Ki 24 (V.int (h₀:Nat))))=H1 at f5 s05 ⊢;refine⟨_,Z,pw,_,Z,.inr (aT.same (K:=K) s05 _ _ hS),_,Z,λpr hpr=>?_⟩;rw[hlen];have s2:=ai hpr (.rng 0 ws.length);refine⟨pr,ws.length,Z,zqd,by omega,λln hln=>?_⟩;have s3:=ai hln (.lst ((B.upTo ws.length).map V.int));have n3:av (av H1 pr (.rng 0 ws.length)) ln (.lst ((B.upTo ws.length).map V.int)) ln=some (.lst (aF (J9 ws.length))):=by rw[zqd,uo]
 have s13:=s2.trans s3;generalize av (av H1 pr (.rng 0 ws.length)) ln (.lst ((B.upTo ws.length).map V.int))=H3 at n3 s13 ⊢;refine λd hd=>?_
 have s6:=ai hd (.dK []);have e6:av H3 d (.dK []) d=some (.dK (ft [])):=zqd;have s36:=s13.trans s6;have n6:=s6 _ _ n3;have s06:=s05.trans s36;have hd0:H d=none:=gA (s05.trans s13) hd;clear s6;generalize av H3 d (.dK [])=H6 at s36 e6 n6 s06 ⊢;have T0:TI K H6 (RV K) ws h₀ [] (λ_=>(0,1)) (J9 ws.length) (Ki 24 h₀):=TI.first h1 h20 g.gd;let Iv1:Nat->L2.St->Hp->Prop:=λm σ H'=>∃(ns fr:List Nat) (ln lf:Addr) (tl:Tl) (f:Nat->R) (x5 x6 x7 x8:Option V),σ=[some (.ref pw),some (.int (h₀:Nat)),some (.ref lf),some (.ref ln),some (.ref d),x5,x6,x7,x8]/\aC H H'/\H' ln=some (.lst (aF ns))/\H' lf=some (.lst (aF fr))/\H' d=some (.dK (ft tl))/\TI K H' (RV K) ws h₀ tl f ns fr/\m=ns.length
 refine⟨Iv1,⟨_,_,_,ln,lf,[],_,none,none,none,none,Z,s06,n6,s36 _ _ f5,e6,T0,Z⟩,?_⟩;clear T0 f5 s36 n6 e6 s06 s13 n3 s2 s3 s4 s5 s05 hlf hl4 hln hpr hd;rintro m σ H1 ⟨ns,fr,ln,lf,tl,f,x5,x6,x7,x8,rfl,s1,hn1,hf1,hd1,T1,rfl⟩;have nln:(aF ns).length=ns.length:=J7 _;have nd:=T1.nodup;have nl6:ns.length≤ws.length:=fQ nd λj hj=>(T1.lt hj).1
 refine⟨_,Z,(by show 0≤sizeLine;exact KJ _),λpe hpe=>?_⟩;have s2:=ai hpe (.lst []);have e2:av H1 pe (.lst []) pe=some (.lst []):=zqd;generalize av H1 pe (.lst [])=H2 at s2 e2 ⊢;have s02:=s1.trans s2;refine⟨.list (ns.map λn:Nat=>LS (n:Int)),.list [],.lst (aO.of (s2 _ _ hn1)) (rW ns),.lst (aO.of e2) .nil,CP ns,Z,Db ns,_,Z,?_⟩;have ev:LD (.list (ns.map λn:Nat=>LS (n:Int))) (.list [])=ns.isEmpty:=by cases ns<;>rfl
 rw[ev];have hn2:=s2 _ _ hn1;have hf2:=s2 _ _ hf1;have hd2:=s2 _ _ hd1;by_cases c0:ns=[]
 ·subst c0;refine rQ (b:=!List.isEmpty []) Z ?_;refine⟨_,Z,pw,_,Z,.inr (aT.same (K:=K) s02 _ _ hS),ws.length,(by rw[hlen]),by omega,by omega,λD hD=>bY (fK (lo:=0) (n:=((ws.length:Nat):Int).toNat)) (λ_=>true) (λi=>(dX (ft tl) (KN (i:Int))).getD V.non) hD (by omega) (λi x H' hi' s' hx' R E kR kE=>?_) λH3 s3 h3=>?_⟩
  ·subst hx';rw[MM];obtain⟨vj,mj,_,_⟩:=T1.none i (by omega);have ev:=md T1.nd mj;rw[ev] at kR;refine⟨eU.set Z,_,Z,_,Z,d,vj,Z,.inl ⟨ft tl,KN (i:Int),.inl (s' _ _ hd2),Z,ev.symm⟩,?_⟩;exact kR Z _ (aC.refl _)
  ·rw[MS,ix] at h3;refine⟨D,_,Z,.inl ⟨aO.of h3,λlt hlt=>?_⟩⟩;have s4:=ai hlt (.tup ((J9 ws.length).map λi:Nat=>(dX (ft tl) (KN (i:Int))).getD V.non));refine k _ _ _ ((s02.trans s3).trans s4) ⟨lt,_,Z,bH.of zqd,sx λi hi=>?_⟩ T1.ok;obtain⟨vj,mj,pj,_⟩:=T1.none i (Kk.mp hi);rw[md T1.nd mj];exact pj.mono (aT.same ((s2.trans s3).trans s4))
 have n0:0<ns.length:=Mv.mpr c0;refine xi (b:=!ns.isEmpty) (by rw[PL,Od];exact c0) ?_;refine⟨_,λ_ _ z=>z,?_⟩;refine⟨_,Z,_,Z,_,Z,.ref pw,ln,lf,ws,ns,fr,Z,wv.mono (aT.same s02),g,aO.of hn2,c0,T1.sorted,λj hj=>(T1.lt hj).1,aO.of hf2,T1.f24,T1.pos,λq lo vr r U H3 s3 hq rv ho F wf=>?_⟩;refine⟨q,_,Z,hq,Z,_,_,Z,_,_,Z,Z,?_⟩;have s03:=s02.trans s3;have f24:=T1.f24;have ofl:(ns.filter U).length≤ns.length:=Lm _ _;have ofm:∀j∈ns.filter U,j∈ns:=λj hj=>(Kl.mp hj).1
 refine⟨_,Z,_,Z,_,Z,.ref pw,lo,lf,ws,ns.filter U,fr,Z,wv.mono (aT.same s03),aO.of ho,by omega,λj hj=>(T1.lt (ofm j hj)).1,aO.of (s3 _ _ hf2),f24,λlb H4 s4 _ b4=>?_⟩;have s24:=s3.trans s4;have hd4:=s24 _ _ hd2;have hn4:=s24 _ _ hn2;have hf4:=s24 _ _ hf2;have ho4:=s4 _ _ ho;have rv4:=rv.mono (aT.same s4);have ndo:lo≠d:=λz=>by rw[z,hd4] at ho4;cases ho4
 have ool:(aF (ns.filter U)).length=(ns.filter U).length:=J7 _;have tll:tl.length≤ws.length:=by
  have:=fQ (n:=ws.length) T1.nd λj hj=>by
   obtain⟨x,hx,rfl⟩:=Kc.mp hj;exact(T1.vl x hx).2.2
  rw[J7] at this;exact this
 let Iv2:Nat->L2.St->Hp->Prop:=λi σ H'=>∃(tl':Tl) (y8:Option V),σ=[some (.ref pw),some (.int (h₀:Nat)),some (.ref lf),some (.ref ln),some (.ref d),some vr,some (.ref lo),some (.ref lb),y8]/\(∀b o,b≠d->H4 b=some o->H' b=some o)/\H' d=some (.dK (ft (tl++tl')))/\tl'.map (·.1)=(ns.filter U).take i/\∀x∈tl',RV K H' x.2 r
 refine⟨_,Z,lo,Z,⟨_,aO.of ho4⟩,cU (K:=K) (a:=lo) (xs:=aF (ns.filter U)) Iv2 ⟨[],x8,Z,λ_ _ _ e=>e,(by rw[LF];exact hd4),Z,(λx hx=>by cases hx)⟩ (λi σ H' _ ⟨_,_,_,k',_⟩=>aO.of (k' _ _ ndo ho4)) ?_ ?_⟩
 ·rintro i x σ H5 hx ⟨tl',y8,rfl,k5,e5,m5,v5⟩;obtain⟨j,hj,rfl⟩:=dy hx;have z5:=yo.ex hd4 k5;have jm:=Ke hj;have ml:=congrArg List.length m5;rw[J7,K0] at ml;have il:=(Kg.mp hj).1;have nm:j∉(tl++tl').map (·.1):=λm=>by
   rw[Ku,m5] at m;rcases KG.mp m with z|z
   ·exact(T1.lt (ofm j jm)).2 z
   ·obtain⟨i',hi',ei'⟩:=Lj.mp z;rw[K0] at hi';rw[PH] at ei';have:=(Na (nd.filter U)).mp (ei'.trans (Kg.mp hj).2.symm);omega
  refine⟨_,Z,_,Z,_,Z,d,_,Z,kW.k (k:=KN (j:Int)) (v:=vr) e5 (by unfold ft;rw[J7,Ko,MO];omega),?_⟩;rw[Go nm];have z8:=yo.up e5 (ft (tl++tl'++[(j,vr)]));refine⟨tl'++[(j,vr)],_,Z,λb o nb e=>by rw[ak nb];exact k5 b o nb e,by rw[zqd,Mt],?_,λx hx=>?_⟩
  ·rw[Ku,m5,KP,hj];rfl
  ·rcases KG.mp hx with z|z
   ·exact(v5 x z).mono z8.tst
   ·rw[Ks.mp z];exact(rv4.mono z5.tst).mono z8.tst
 rintro σ H5 ⟨tl',y8,rfl,k5,e5,m5,v5⟩;rw[ool,K2] at m5;have z5:=yo.ex hd4 k5;have n5:=z5.lst hn4;have f5:=z5.lst hf4;have b5:=z5.lst b4;have o5:=z5.lst ho4;have S05:aC H H5:=λb o e=>k5 b o (aB e hd0) (s4 _ _ (s03 _ _ e))
 have fl:(aF fr).length=24:=by unfold aF;rw[J7,f24]
 have bl:(dJ (gW ws (ns.filter U)) fr).length=24:=by unfold dJ;rw[J7,KB,f24]
 refine⟨_,Z,lf,_,Z,.inl (aO.of f5),24,(by rw[fl];rfl),by decide,by decide,λlh hlh=>bY (fK (lo:=0) (n:=24)) (λ_=>true) (λi=>V.int (((nE fr (gW ws (ns.filter U))).getD i 0:Nat):Int)) hlh (by decide) (λi x H' hi' s' hx' R E kR kE=>?_) λH8 s8 h8=>?_⟩
 ·subst hx';rw[MM];have at':∀(l:List Nat),i<l.length->(aF l)[i]?=some (.int ((l.getD i 0:Nat):Int)):=λl hl=>by
   unfold aF;rw[Kt,J6 hl,au 0 (J6 hl)];rfl
  rw[←C2 f24 (show i<24 from hi')] at kR;refine⟨eU.set Z,_,Z,_,Z,lf,_,_,_,Z,Z,aO.of (s' _ _ f5),aP (at' _ (by omega)),_,Z,_,Z,lb,_,_,_,Z,Z,aO.of (s' _ _ b5),aP (at' _ (by omega)),_,_,Z,Z,?_⟩;exact kR Z _ (aC.refl _)
 have e8:((J9 24).filter λ_=>true).map (λi=>V.int (((nE fr (gW ws (ns.filter U))).getD i 0:Nat):Int))=aF (nE fr (gW ws (ns.filter U))):=by
  have e:=cP 0 (λn:Nat=>V.int (n:Int)) (nE fr (gW ws (ns.filter U)));rw[jD] at e;exact e
 have h8:H8 lh=some (.lst (aF (nE fr (gW ws (ns.filter U))))):=by rw[←e8];exact h8
 have n8:=s8 _ _ n5;have o8:=s8 _ _ o5;refine⟨_,Z,ln,Z,⟨_,aO.of n8⟩,λlz hlz=>bY (ic (aO.of n8)) (λi=>!U (ns.getD i 0)) (λi=>V.int ((ns.getD i 0:Nat):Int)) hlz (by omega) (λi y H' hi' s' hy R E kR kE=>?_) λH9 s9 h9=>?_⟩
 ·obtain⟨j,hj,rfl⟩:=dy hy;have jm:=Ke hj;rw[au 0 hj] at kR kE;refine⟨eU.set Z,_,Z,_,Z,lo,_,Z,.inl (aO.of (s' _ _ o8)),Z,xB _,_,Z,?_⟩;have ein:CW (.int (j:Nat)) (aF (ns.filter U))=U j:=by
   unfold aF;rw[ny,L1,QH,Kl];exact⟨λz=>z.2,λz=>⟨jm,z⟩⟩
  rw[ein]
  cases u:U j with
  |true=>rw[u] at kE;exact cO (kE Z _ (aC.refl _))
  |false=>rw[u] at kR;exact hZ ⟨_,Z,kR Z _ (aC.refl _)⟩
 rw[nln,iG 0 (λj=>!U j) (λj:Nat=>V.int (j:Int)) ns] at h9;have s59:=s8.trans s9;have T5:=T1.mono (H':=H5) λv r z=>(z.mono (aT.same (s2.trans s24))).mono z5.tst
 have T9:=(T5.next F wf m5 v5 g.gd).mono (H':=H9) λv r z=>z.mono (aT.same s59)
 obtain⟨j,hj,hu⟩:=F.some f24;refine⟨_,?_,_,_,lz,lh,_,_,_,_,_,_,Z,S05.trans s59,h9,s9 _ _ h8,s59 _ _ e5,T9,Z⟩;exact List.length_filter_lt_length_iff_exists.mpr ⟨j,hj,by rw[hu];decide⟩
theorem EH(T:eS K mg t):bu P w K mg base dP 3 t.a_Q6 t.d_Q6 ["_law_works_here","_law_plan"] (ig K):=by
 refine T.F_Q6.ok om (λvs H Q E h=>?_) (λcdv A outer s H vs Q E hr h=>?_)
 ·obtain⟨_,_,_,_,rfl,_⟩:=h;rfl
 obtain⟨v,u,ws,pl,rfl,wv,wo,pv,po,k⟩:=h;refine dj.ok (ae (bF (gP (ik (cZ (cH (aH dq (by rfl) T.z_isinstance Nk (aa (qv 1) (aa (fO (v:=V.ty "tuple") Z T.z_tuple NJ Z) af ac) ac)))) (ik (aN oF (aH aI (by rfl) T.z_len LM (aa (qv 1) af ac)) ah (aU _)) (ge (cZ (cH (aH (iV Z) (by rfl) T.z_all boot_all (aa (bc (N':=["_law_row"]) (src:=[none]) Z (by exact(db (qv 1))) (λ_ _ _ _ _=>(by exact(by exact aA (i:=0) (by show KU (["_law_row"]:List K1);decide +kernel) (by exact Z) (by first|exact KW Z|exact KR Z)))) (λ_ _ _ _ _=>ck) (λ_ _ _ _ _=>(by exact(by exact(aH (qF (K:=K) (by exact Z)) (by exact Z) T.z_isinstance Nk (aa (by exact(qv 0)) (aa (by exact(fO (v:=V.ty "tuple") Z T.z_tuple NJ Z)) af ac) ac))))) (by exact trivial) Z (by decide +kernel) Z (by decide +kernel) (by exact aW Z trivial)) af cW)))))))) (aj (aM c8)) aX) (ae (cz 2 om.nd (aD jA (bO (aa (bv (aa ah (aa ah af aG) aG)) af bQ)) (aH aI (by rfl) T.z_len LM (aa (qv 0) af ac)))) (ae (bT KD Z (bW Z T.z_range (aa ah af aG)) (aA (i:=3) om.nd Z (by first|exact KW Z|exact KR Z)) (aj (bT KD Z (db (bL ay (qv 1) (qv 3))) (j0 Z (bB (aA (i:=4) om.nd Z (by first|exact KW Z|exact KR Z)) (bB (aA (i:=5) om.nd Z (by first|exact KW Z|exact KR Z)) dY))) (ae (bF (gP (ik (cZ (jX lE lE (bG ay (bG ay (qv 0) (qv 4) (λ_ _=>Z)) ah (λ_ _=>Z)) (qv 3) (bG ay (bG ay (qv 0) (qv 4) (λ_ _=>Z)) ah (λ_ _=>Z)))) (ge (aN ip (gQ Lr Qd PySem.F.type_list_count tL (bc (N':=["_law_pair"]) (src:=[none]) Z (by exact(db (bG ay (qv 1) (qv 3) (λ_ _=>Z)))) (λ_ _ _ _ _=>(by exact(by exact aA (i:=0) (by show KU (["_law_pair"]:List K1);decide +kernel) (by exact Z) (by first|exact KW Z|exact KR Z)))) (λ_ _ _ _ _=>ck) (λ_ _ _ _ _=>(by exact(by exact(bG (cI (K:=K) (by exact Z)) (by exact(qv 0)) ah (by exact λ_ _=>Z))))) (by exact trivial) Z (by decide +kernel) Z (by decide +kernel) (by exact aW Z trivial)) (aa (qv 4) af ac)) ah (aU _))))) (aj (aM c8)) aX) (ae (bF (gP (ik (aN fV (bL ay (qv 5) ah) ah (aU _)) (ge (aN (fP hr) (cQ (hJ T) hr T.m_Q30 T.F_Q30.kp T.b_Q30 (aa (bL ay (qv 5) ah) (aa (bL ay (qv 5) ah) af aQ) aQ)) (qv 5) (aU _))))) (aj (aM c8)) aX) (aj (mW (cQ (qq T) hr T.m_Q31 T.F_Q31.kp T.b_Q31 (aa (bL ba (qv 2) (qv 4)) (aa (qv 5) af ac) aQ)) (vP (qv 2) (qv 4) fD)))))))) (aj (aM (jz (wG hr) (qv 2) (bc (N':=["_law_work"]) (src:=[none]) Z (by exact(db (qv 0))) (λ_ _ _ _ _=>(by exact(by exact aA (i:=0) (by show KU (["_law_work"]:List K1);decide +kernel) (by exact Z) (by first|exact KW Z|exact KR Z)))) (λ_ _ _ _ _=>ck) (λ_ _ _ _ _=>(by exact(by exact(bG (cI (K:=K) (by exact Z)) (by exact(qv 0)) ah (by exact λ_ _=>Z))))) (by exact trivial) Z (by decide +kernel) Z (by decide +kernel) (by exact aW Z trivial)) (aU _))))))) ?_
 nofun
 obtain⟨pa,xs,rfl,hpa,al⟩:=wv;obtain⟨pp,ys,rfl,hpp,ap⟩:=pv;have hxl:=al.len;have hyl:=ap.len;have few:=wo.few;have l24:=po.len;have dp:bS K H (.ref pp) (GD pl):=.tup hpp (ap.deep λ_ _ z=>z.deep);refine⟨_,Z,_,_,_,true,Z,dp,Z,_,Z,cO ?_⟩;refine⟨_,Z,pp,_,Z,.inr hpp,Z,_,Z,jb (by rw[hyl,l24];rfl) ?_⟩;refine⟨_,Z,pp,Z,⟨_,hpp⟩,λD hD=>eF (K:=K) (P:=λ_ v (b:Bool)=>v=.bl b) (ds:=pl) (f:=λ_=>true) (λ_ _ _ _ _ p=>p) hD hpp hyl (by omega) (λi x q H' hx hq s' R E kR=>?_) λH2 zs s2 hD2 al2=>?_⟩
 ·obtain⟨q',hq',tv⟩:=ap.at hx;rw[hq] at hq'
  cases hq'
  refine⟨eU.set Z,_,Z,_,_,_,true,Z,(tv.mono (aT.same s')).deep,Z,?_⟩;exact kR _ _ (aC.refl _) Z
 have ez:=yc al2;refine⟨D,pl.map λ_=>true,Z,(by rw[←ez];exact aO.of hD2),_,Z,?_⟩;rw[show(pl.map λ_=>true).all id=true from Mm.mpr λb hb=>by obtain⟨_,_,rfl⟩:=Kc.mp hb;rfl];refine cO ?_;refine⟨gI,λp0 hp0=>?_⟩;have s3:=ai hp0 (.tup [.int 0,.int 1]);have r3:RV K (av H2 p0 (.tup [.int 0,.int 1])) (.ref p0) (0,1):=RV.of zqd;generalize av H2 p0 (.tup [.int 0,.int 1])=H3 at s3 r3 ⊢;refine⟨yA,λl0 hl0=>?_⟩;have s4:=ai hl0 (.lst [.ref p0]);have e4:av H3 l0 (.lst [.ref p0]) l0=some (.lst [.ref p0]):=zqd;have r4:=r3.mono (aT.same s4);generalize av H3 l0 (.lst [.ref p0])=H4 at s4 e4 r4 ⊢;have s04:=(s2.trans s3).trans s4;refine⟨_,Z,pa,_,Z,.inr (aT.same (K:=K) s04 _ _ hpa),l0,.ref p0,xs.length,Z,Z,e4,by omega,λld hld=>?_⟩;have s5:=ai hld (.lst (Ki xs.length (V.ref p0)));have e5:av H4 ld (.lst (Ki xs.length (V.ref p0))) ld=some (.lst (Ki xs.length (V.ref p0))):=zqd;have a5:cK (RV K (av H4 ld (.lst (Ki xs.length (V.ref p0))))) (Ki xs.length (V.ref p0)) (dg ws.length []):=by
  rw[xN,←hxl];exact cK.rep (r4.mono (aT.same s5)) _
 have s05:=s04.trans s5;generalize av H4 ld (.lst (Ki xs.length (V.ref p0)))=H5 at s05 e5 a5 ⊢;generalize Ki xs.length (V.ref p0)=d5 at e5 a5;have hln:H ld=none:=gA s04 hld;have t05:=aT.same (K:=K) s05;let Iv1:Nat->L2.St->Hp->Prop:=λu σ H'=>∃(x3 x4 x5:Option V) (ds:List V),σ=[some (.ref pa),some (.ref pp),some (.ref ld),x3,x4,x5]/\(∀b o,b≠ld->H5 b=some o->H' b=some o)/\H' ld=some (.lst ds)/\cK (RV K H') ds (dg ws.length (pl.take u).flatten)
 refine⟨24,Z,by decide,by decide,cG (lo:=0) (n:=24) Iv1 ⟨none,none,none,d5,Z,λ_ _ _ e=>e,e5,a5⟩ ?_ ?_⟩
 ·rintro u σ H6 hu ⟨x3,x4,x5,ds,rfl,k6,e6,a6⟩;rw[MM];obtain⟨xt,hxt⟩:∃xt,ys[u]?=some xt:=⟨_,J6 (by omega)⟩;obtain⟨q,hq,pr,zs,rfl,hpr,az⟩:=ap.at hxt;obtain⟨nd,pc⟩:=po.row u q hq;have lz:=az.len;have lq:=po.few q (Ke hq);have t6:=t05.trans (aT.steps (K:=K) e5 k6 ⟨_,e6⟩);have fl:=xC (pl:=pl.take u) λx hx=>po.few x (L0 hx)
  rw[K0] at fl;let Iv2:Nat->L2.St->Hp->Prop:=λi σ H'=>∃(y4 y5:Option V) (ds:List V),σ=[some (.ref pa),some (.ref pp),some (.ref ld),some (.int (u:Nat)),y4,y5]/\(∀b o,b≠ld->H5 b=some o->H' b=some o)/\H' ld=some (.lst ds)/\cK (RV K H') ds (dg ws.length ((pl.take u).flatten++q.take i))
  refine⟨_,Z,_,Z,pp,_,_,_,Z,Z,t6 _ _ hpp,aP hxt,pr,Z,⟨_,t6 _ _ hpr⟩,iw (K:=K) (a:=pr) (xs:=zs) Iv2 ⟨x4,x5,ds,Z,k6,e6,(by rw[S2,LF];exact a6)⟩ (λi σ H' _ ⟨_,_,_,_,k',h',_⟩=>t05.trans (aT.steps (K:=K) e5 k' ⟨_,h'⟩) _ _ hpr) ?_ ?_⟩
  ·rintro i x σ H7 hx ⟨y4,y5,d7,rfl,k7,e7,a7⟩;obtain⟨c,hc,pz,xa,rfl,hSc,rx⟩:=az.at hx;have mc:=Ke hc;obtain⟨c1,c2,c3,c4,c5⟩:=pc c mc;have t7:=t05.trans (aT.steps (K:=K) e5 k7 ⟨_,e7⟩);obtain⟨xw,hxw⟩:∃xw,xs[c.1]?=some xw:=⟨_,J6 (by omega)⟩;obtain⟨w,hw,pw,am,rfl,hpw,ram⟩:=al.at hxw;have ew:ws.getD c.1 cC=w:=au cC hw;rw[ew] at c2 c3;refine⟨pz,_,Z,t7 _ _ hSc,Z,_,_,Z,_,_,Z,Z,?_⟩;refine⟨_,Z,_,Z,pa,_,_,_,Z,Z,t7 _ _ hpa,aP hxw,pw,_,_,_,Z,Z,t7 _ _ hpw,Z,_,Z,_,_,Z,Z,_,Z,cJ (by omega) ⟨_,Z,_,Z,pa,_,_,_,Z,Z,t7 _ _ hpa,aP hxw,pw,_,_,_,Z,Z,t7 _ _ hpw,Z,_,_,Z,Z,_,Z,?_⟩⟩;refine rQ (b:=!decide (((u:Nat):Int)≤((w.2.1:Nat):Int))) (by rw[decide_eq_true (by omega)];rfl) ?_;refine⟨_,Z,_,Z,pp,_,_,_,Z,Z,t7 _ _ hpp,aP hxt,pr,Z,⟨_,t7 _ _ hpr⟩,λD3 hD3=>eF (K:=K) (P:=λ_ v (d:Int)=>v=.int d) (ds:=q) (f:=λc:Pc=>((c.1:Nat):Int)) (λ_ _ _ _ _ p=>p) hD3 (t7 _ _ hpr) lz (by omega) (λj z d H' hz hd s' R E kR=>?_) λH8 ys8 s8 hD8 al8=>?_⟩
   ·obtain⟨d',hd',pd,xd,rfl,hSd,rd_⟩:=az.at hz;rw[hd] at hd'
    cases hd'
    refine⟨eU.set Z,_,Z,pd,_,_,_,Z,Z,aT.same (K:=K) s' _ _ (t7 _ _ hSd),Z,?_⟩;exact kR _ _ (aC.refl _) Z
   have e8:=sy al8;rw[e8] at hD8;have cn:=Ac nd (c.1:Int);refine⟨.inl ⟨Z,_,aO.of hD8⟩,_,Z,D3,_,(c.1:Int),Z,Z,aO.of hD8,_,_,Z,Z,_,Z,cA (by omega) ?_⟩;have t8:=t7.trans (aT.same (K:=K) s8);have e8':=s8 _ _ e7;have a8:cK (RV K H8) d7 (dg ws.length ((pl.take u).flatten++q.take i)):=a7.mono λ_ _ z=>z.mono (aT.same s8)
   have k8:∀b o,b≠ld->H5 b=some o->H8 b=some o:=λb o nb e=>s8 _ _ (k7 b o nb e)
   clear e8 al8 a7 k7;obtain⟨pq,rfl,hSq⟩:=rx;have cp:1≤c.2.1:=by
    have:=(pM c4.bq.pos).mpr c4.nn;refine yQ c4.red c4.nn λz=>?_
    rw[z,(bX (r:=(0,1)) (by decide)).mpr Z] at c5;exact absurd c5 (by decide)
   refine⟨_,Z,pq,_,_,_,Z,Z,t8 _ _ hSq,Z,_,_,Z,Z,_,Z,cA (by omega) ?_⟩;have cb:=c4.wf.bot;refine⟨_,Z,pq,_,_,_,Z,Z,t8 _ _ hSq,Z,_,Z,pq,_,_,_,Z,Z,t8 _ _ hSq,Z,c.2.1,c.2.2,Z,c4.bq.pos,Ky cb (Li (by decide) (by decide)),λpm hpm=>?_⟩;have em:dk c.2.1 c.2.2=c.2:=dG c4.bq.pos c4.bq.pos c4.red.cop Z;rw[em];have s9:=ai hpm (.tup [.int c.2.1,.int c.2.2]);have r9:RV K (av H8 pm (.tup [.int c.2.1,.int c.2.2])) (.ref pm) c.2:=RV.of zqd;generalize av H8 pm (.tup [.int c.2.1,.int c.2.2])=H9 at s9 r9 ⊢;have t9:=t8.trans (aT.same (K:=K) s9);have rq:RV K H9 (.ref pq) c.2:=⟨pq,Z,t9 _ _ hSq⟩;refine⟨_,Z,dR c.2,dR c.2,r9.deep,rq.deep,Z,Z,xS _,_,Z,?_⟩;rw[iz,decide_eq_true Z];refine cO ?_;have a9:cK (RV K H9) d7 (dg ws.length ((pl.take u).flatten++q.take i)):=a8.mono λ_ _ z=>z.mono (aT.same s9)
   have e9:=s9 _ _ e8';have l9:=a9.len;have l9':(dg ws.length ((pl.take u).flatten++q.take i)).length=ws.length:=by unfold dg;rw[J7,KB]
   obtain⟨yv,hyv⟩:∃yv,d7[c.1]?=some yv:=⟨_,J6 (by omega)⟩;obtain⟨r,hrd,ry⟩:=a9.at hyv;rw[iA _ c1] at hrd;injection hrd with hrd;have wr:Wf 240 r:=by
    rw[←hrd];refine Cf (λd hd=>?_) ?_
    ·rcases KG.mp hd with z|z
     ·obtain⟨q',hq',hd'⟩:=List.mem_flatten.mp z;obtain⟨u',hu'⟩:=Q0 (L0 hq');exact((po.row u' q' hu').2 d hd').2.2.2.1
     ·exact(pc d (L0 z)).2.2.2.1
    ·rw[Ko,K0];omega
   refine⟨_,Z,_,Z,ld,_,_,_,Z,Z,aO.of e9,aP hyv,_,Z,yv,.ref pq,r,c.2,240,240,Z,ry,rq,wr,c4.wf,by decide,λpn hpn=>?_⟩;have sA:=ai hpn (.tup [.int (bj r c.2).1,.int (bj r c.2).2]);have rA:RV K (av H9 pn (.tup [.int (bj r c.2).1,.int (bj r c.2).2])) (.ref pn) (bj r c.2):=RV.of zqd;have eA:=sA _ _ e9;have tA:=aT.same (K:=K) sA;generalize av H9 pn (.tup [.int (bj r c.2).1,.int (bj r c.2).2])=HA at sA rA eA tA ⊢;refine⟨_,Z,_,Z,ld,d7,_,c.1,Z,Z,eA,ir (by omega),?_⟩;have tu:=aT.up (K:=K) eA (d7.set c.1 (.ref pn));refine⟨_,_,_,Z,λb o nb e=>by rw[ak nb];exact sA _ _ (s9 _ _ (k8 b o nb e)),zqd,?_⟩;rw[KP,hc,←Mt];show cK _ _ (dg ws.length ((pl.take u).flatten++q.take i++[c]));rw[←xM,hrd];exact cK.setI (rA.mono tu) c.1 (a9.mono λ_ _ z=>(z.mono tA).mono tu)
  ·rintro σ H7 ⟨y4,y5,d7,rfl,k7,e7,a7⟩;refine⟨_,_,_,d7,Z,k7,e7,?_⟩;rw[tX hq];rw[lz,K2] at a7;exact a7
 ·rintro σ H6 ⟨x3,x4,x5,ds,rfl,k6,e6,a6⟩;rw[NF (by omega)] at a6;have t6:=t05.trans (aT.steps (K:=K) e5 k6 ⟨_,e6⟩);have dn:dg ws.length pl.flatten=ws.map λw=>w.2.2:=by
   refine Sd λi=>?_
   by_cases hi:i<ws.length
   ·rw[iA _ hi,po.fin i hi,Kt,J6 hi,au cC (J6 hi)];rfl
   ·rw[MA (by unfold dg;rw[J7,KB];omega),MA (by rw[J7];omega)]
  rw[dn] at a6;refine⟨_,Z,_,Z,pa,Z,⟨_,t6 _ _ hpa⟩,λD hD=>eF (K:=K) (P:=RV K) (ds:=ws) (f:=λw:Wk=>w.2.2) (λ_ _ _ _ t p=>p.mono t) hD (t6 _ _ hpa) hxl (by omega) (λi x w H' hx hw s' R E kR=>?_) λH7 zs s7 hD7 al7=>?_⟩
  ·obtain⟨w',hw',pw,am,rfl,hpw,ram⟩:=al.at hx;rw[hw] at hw'
   cases hw'
   have t':=t6.trans (aT.same (K:=K) s');refine⟨eU.set Z,_,Z,pw,_,_,_,Z,Z,t' _ _ hpw,Z,?_⟩;exact kR _ _ (aC.refl _) (ram.mono t')
  have d1:bS K H7 (.ref ld) (.list ((ws.map λw=>w.2.2).map dR)):=.lst (aO.of (s7 _ _ e6)) ((a6.mono λ_ _ z=>z.mono (aT.same s7)).deep λ_ _ z=>z.deep);have d2:bS K H7 (.ref D) (.list ((ws.map λw=>w.2.2).map dR)):=.lst (aO.of hD7) (al7.deep λ_ _ z=>z.deep);refine⟨_,_,d1,d2,xc _,xc _,Da _,?_⟩;have ee:LD (.list ((ws.map λw=>w.2.2).map dR)) (.list ((ws.map λw=>w.2.2).map dR))=true:=oY _;rw[ee];refine k _ λb o e=>s7 _ _ (k6 b o (aB e hln) (s05 _ _ e))
theorem Cp(T:eS K mg t):bu P w K mg base dP 3 t.a_Q35 t.d_Q35 ["_law_works_here","_law_hands","_law_top","_law_turns"] (nY K):=by
 refine T.F_Q35.ok f9 (λvs H Q E h=>?_) (λcdv A outer s H vs Q E hr h=>?_)
 ·obtain⟨_,_,_,_,_,_,_,rfl,_⟩:=h;rfl
 obtain⟨v,u,pc,ws,hn,tp,ls,rfl,a,lq,k⟩:=h;refine dj.ok (ae (bF (gP (ik (cZ (cH (aH dq (by rfl) T.z_isinstance Nk (aa (qv 3) (aa (fO (v:=V.ty "tuple") Z T.z_tuple NJ Z) af ac) ac)))) (ge (aN (fP hr) (cE iE (by rfl) T.z_list Tt (aa (qv 3) af ac)) (aH (gR (w:=w) Z Z) (by rfl) T.z_sorted SD (aa (cE (kB (w:=w) Z Z) (by rfl) T.z_set lQ (aa (qv 3) af ac)) af aK)) (aU _))))) (aj (aM c8)) aX) (ae (bF (aN (fP hr) (bc (N':=["_law_t"]) (src:=[none]) Z (by exact(db (qv 3))) (λ_ _ _ _ _=>(by exact(by exact aA (i:=0) (by show KU (["_law_t"]:List K1);decide +kernel) (by exact Z) (by first|exact KW Z|exact KR Z)))) (λ_ _ _ _ _=>(cX (cZ (jX lE fV ah (by exact(qv 0)) ah)))) (λ_ _ _ _ _=>(by exact(by exact(qv 0)))) (by exact trivial) Z (by decide +kernel) Z (by decide +kernel) (by exact aW Z trivial)) (bO af) (aU _)) (aj (aM c8)) aX) (ae (cz 4 f9.nd (bv (aa ah (aa ah af aG) aG))) (ae (bT KD Z (db (qv 0)) (j0 Z (bB (aA (i:=5) f9.nd Z (by first|exact KW Z|exact KR Z)) (bB (aA (i:=6) f9.nd Z (by first|exact KW Z|exact KR Z)) (bB (aA (i:=7) f9.nd Z (by first|exact KW Z|exact KR Z)) dY)))) (ae (cz 8 f9.nd (aH aI (by rfl) T.z_len LM (aa (bc (N':=["_law_t","_law_turns"]) (src:=[none,some 3]) Z (by exact(gy Z T.z_range (aa (qv 5) (aa (aD cf (qv 6) ah) af aR) ac))) (λ_ _ _ _ _=>(by exact(by exact aA (i:=0) (by show KU (["_law_t","_law_turns"]:List K1);decide +kernel) (by exact Z) (by first|exact KW Z|exact KR Z)))) (λ_ _ _ _ _=>(cX (aN (fj (K:=K) (by exact Z)) (by exact(qv 0)) (by exact(qv 1)) (by with_unfolding_all rfl)))) (λ_ _ _ _ _=>(by exact(by exact(qv 0)))) (by exact⟨Z,Z,Z,Z,trivial⟩) Z (by decide +kernel) Z (by decide +kernel) (by exact aW Z ⟨Z,trivial⟩)) af cW))) (ae (cz 9 f9.nd (cQ (Cv T) hr T.m_Q22 T.F_Q22.kp T.b_Q22 (aa (qv 7) (aa (cQ (j9 T) hr T.m_Q23 T.F_Q23.kp T.b_Q23 (aa (qv 2) (aa (bv (aa (qv 8) (aa ah af aG) ac)) af bQ) ac)) af aK) ac))) (aj (bF (aN ip (bL ay (qv 9) ah) ah (aU _)) (aj (cz 4 f9.nd (cQ (qq T) hr T.m_Q31 T.F_Q31.kp T.b_Q31 (aa (qv 4) (aa (qv 9) af ac) ac)))) aX))))) (aj (aM (cQ (ka T) hr T.m_Q15 T.F_Q15.kp T.b_Q15 (aa (cQ (j9 T) hr T.m_Q23 T.F_Q23.kp T.b_Q23 (aa (qv 2) (aa (bv (aa (aD bi (qv 1) (aH aI (by rfl) T.z_len LM (aa (qv 3) af ac))) (aa ah af aG) aR)) af bQ) ac)) (aa (qv 4) af ac) aK)))))))) ?_
 nofun
 have hC:=a.hC;have l24:=a.l24;have srt:=a.srt;have lt:=a.lt;have nl:(aF ls).length=ls.length:=J7 _;refine⟨_,Z,.ref pc,_,"tuple",true,Z,kx hC,Z,_,Z,cO ?_⟩;refine⟨_,Z,pc,_,Z,.inr hC,λp2 h2=>?_⟩;have s2:=ai h2 (.lst (aF ls));have q2:av H p2 (.lst (aF ls)) p2=some (.lst (aF ls)):=zqd;generalize av H p2 (.lst (aF ls))=H2 at s2 q2 ⊢;have en:aF ls=(ls.map λn:Nat=>(n:Int)).map V.int:=by unfold aF;rw[KY];rfl
 have le1:=qo (ls.map λn:Nat=>(n:Int));rw[J7] at le1;have t2:=aT.same (K:=K) s2;refine⟨_,Z,pc,_,Z,.inr (by rw[←en];exact t2 _ _ hC),by rw[J7];omega,λp3 h3=>?_⟩;refine⟨p3,_,Z,zqd,by omega,λp4 ms hpm hpw h4=>?_⟩;obtain⟨zs,ez,zsrt,zmem⟩:=zM lt hpm hpw;have s34:=(ai h3 _).trans (ai h4 (.lst (ms.map V.int)));have q4:av (av H2 p3 (setO w p3 (bC (ls.map λn:Nat=>(n:Int))))) p4 (.lst (ms.map V.int)) p4=some (.lst (aF zs)):=by rw[←ez];exact zqd
 have s03:=s2.trans s34;refine⟨oI ls,oI zs,lO (aO.of (s34 _ _ q2)),lO (aO.of q4),(kb _).1,(kb _).1,(kb _).2,_,Z,?_⟩;rw[oX,decide_eq_true (lA srt zsrt λn=>(zmem n).symm)];refine cO ?_;generalize av (av H2 p3 (setO w p3 (bC (ls.map λn:Nat=>(n:Int))))) p4 (.lst (ms.map V.int))=H3 at s03 ⊢;have hC3:=aT.same (K:=K) s03 _ _ hC;refine⟨_,Z,pc,Z,⟨_,hC3⟩,λD hD=>bY (l5 hC3) (λ_=>false) (λ_=>V.non) hD (by omega) (λi x H' hi' s' hx' R E kR kE=>?_) λH4 s4 h4=>?_⟩
 ·obtain⟨n,hn,rfl⟩:=dy hx';have n24:=lt n (Ke hn);refine⟨eU.set Z,?_⟩;refine⟨_,Z,_,_,Z,Z,_,Z,cJ (by omega) ?_⟩;refine⟨_,_,Z,Z,_,Z,jb (by omega) (kE Z _ (aC.refl _))⟩
 rw[L8.mpr (λ_ _=>Kj)] at h4;refine⟨(by show 0≤sizeLine;exact KJ _),λpe hpe=>?_⟩;have sE0:=ai hpe (.lst []);have eE0:av H4 pe (.lst []) pe=some (.lst []):=zqd;have h4':=sE0 _ _ h4;have s04:=(s03.trans s4).trans sE0;generalize av H4 pe (.lst [])=H4 at s04 eE0 h4' ⊢;refine⟨.list [],.list [],.lst (aO.of h4') .nil,.lst (aO.of eE0) .nil,Z,Z,(by show 1≤32;decide),_,Z,cO ?_⟩;refine⟨gI,λp5 h5=>?_⟩;have s5:=ai h5 (.tup [.int 0,.int 1]);have r5:RV K (av H4 p5 (.tup [.int 0,.int 1])) (.ref p5) (dS (ws.take 0) tp ls):=RV.of zqd;generalize av H4 p5 (.tup [.int 0,.int 1])=H5 at s5 r5 ⊢;have a5:=(a.same s04).same s5;have hC5:=aT.same (K:=K) (s04.trans s5) _ _ hC;obtain⟨pw,xw,rfl,hW,alW⟩:=a5.wv;have lxw:=alW.len;have w9:=a.w9;let Iv1:Nat->L2.St->Hp->Prop:=λi σ H'=>∃(dv:V) (x5 x6 x7 x8 x9:Option V),σ=[some (.ref pw),some (.int (hn:Nat)),some u,some (.ref pc),some dv,x5,x6,x7,x8,x9]/\aC H5 H'/\RV K H' dv (dS (ws.take i) tp ls)
 refine⟨_,Z,pw,Z,⟨_,hW⟩,iw (K:=K) (a:=pw) (xs:=xw) Iv1 ⟨.ref p5,none,none,none,none,none,Z,aC.refl _,r5⟩ (λi σ H' _ ⟨_,_,_,_,_,_,_,s',_⟩=>aT.same (K:=K) s' _ _ hW) ?_ ?_⟩
 ·rintro i x σ H6 hx ⟨dv,x5,x6,x7,x8,x9,rfl,s6,rd⟩;obtain⟨w,hwd,pW,xa,rfl,hSw,rx⟩:=alW.at hx;have t6:=aT.same (K:=K) s6;have o:=a.ok w (Ke hwd);have ole:=o.le;have olt:=o.lt;refine⟨pW,_,Z,t6 _ _ hSw,Z,_,_,Z,_,_,Z,_,_,Z,Z,?_⟩;have e1:(((w.2.1:Nat):Int)+1-((w.1:Nat):Int)).toNat=w.2.1+1-w.1:=by omega
  refine⟨_,Z,_,Z,_,_,Z,Z,_,_,Z,?_,λD7 hD7=>?_⟩
  ·refine⟨by omega,by omega,by omega,by omega⟩
  rw[e1];refine bY (fK (lo:=((w.1:Nat):Int))) (λi=>!ls.contains (w.1+i)) (λi=>V.int ((w.1:Nat)+(i:Nat):Int)) hD7 (by omega) (λi x H' hi s' hx R E kR kE=>?_) λH7 s7 h7=>?_
  ·subst hx;refine⟨eU.set Z,_,Z,_,Z,pc,_,Z,.inr (aT.same (K:=K) s' _ _ (t6 _ _ hC5)),Z,?_,?_⟩
   ·unfold aF;rw[Qt];exact Mm.mpr λ_ _=>Z
   ·refine⟨_,Z,?_⟩;rw[show CW (V.int ((w.1:Nat)+(i:Nat):Int)) (aF ls)=ls.contains (w.1+i) from ny _ _]
    cases c:ls.contains (w.1+i) with
    |true=>exact cO (kE (by show(!ls.contains (w.1+i))=false;rw[c];rfl) _ (aC.refl _))
    |false=>exact hZ ⟨_,Z,kR (by show(!ls.contains (w.1+i))=true;rw[c];rfl) _ (aC.refl _)⟩
  have ln:(((J9 (w.2.1+1-w.1)).filter λi=>!ls.contains (w.1+i)).map λi=>V.int ((w.1:Nat)+(i:Nat):Int)).length=bZ ls w:=by rw[J7];rfl
  have t7:=aT.same (K:=K) s7;refine⟨D7,_,Z,.inl (aO.of h7),?_⟩;rw[ln];refine⟨_,Z,_,Z,_,Z,gI,λp8 h8=>?_⟩;have s8:=ai h8 (.tup [.int (bZ ls w:Int),.int 1]);have r8:RV K (av H7 p8 (.tup [.int (bZ ls w:Int),.int 1])) (.ref p8) ((bZ ls w:Int),1):=RV.of zqd;generalize av H7 p8 (.tup [.int (bZ ls w:Int),.int 1])=H8 at s8 r8 ⊢;have o24:=qm (ls:=ls) olt;have wi:Wf 240 (((bZ ls w:Int),1):R):=(fo (i:=(bZ ls w:Int)) (n:=24) (by omega)).wf (by decide) (by decide) (by decide);have wt:Wf 240 (aJ tp ((bZ ls w:Int),1)):=di ((Bq.times a.tp (fo (i:=(bZ ls w:Int)) (n:=24) (by omega))).mono ⟨1,by decide⟩ (Kb _)) (by decide);have t68:=t7.trans (aT.same (K:=K) s8);have t58:=t6.trans t68;refine⟨u,.ref p8,tp,((bZ ls w:Int),1),240,240,Z,a5.rv.mono t58,r8,di a.tp (by decide),wi,by decide,λp9 h9=>?_⟩;have s9:=ai h9 (.tup [.int (aJ tp ((bZ ls w:Int),1)).1,.int (aJ tp ((bZ ls w:Int),1)).2]);have r9:RV K (av H8 p9 (.tup [.int (aJ tp ((bZ ls w:Int),1)).1,.int (aJ tp ((bZ ls w:Int),1)).2])) (.ref p9) (aJ tp ((bZ ls w:Int),1)):=RV.of zqd;generalize av H8 p9 (.tup [.int (aJ tp ((bZ ls w:Int),1)).1,.int (aJ tp ((bZ ls w:Int),1)).2])=H9 at s9 r9 ⊢;refine⟨xa,.ref p9,w.2.2,_,20,240,Z,(rx.mono t58).mono (aT.same s9),r9,o.am.wf (by decide) (by decide) (by decide),wt,by decide,λpA hA=>?_⟩;rw[show eL w.2.2 (aJ tp ((bZ ls w:Int),1))=bU tp ls w from Z];have sA:=ai hA (.tup [.int (bU tp ls w).1,.int (bU tp ls w).2]);have rA:RV K (av H9 pA (.tup [.int (bU tp ls w).1,.int (bU tp ls w).2])) (.ref pA) (bU tp ls w):=RV.of zqd;have hpA:bH K (av H9 pA (.tup [.int (bU tp ls w).1,.int (bU tp ls w).2])) pA [.int (bU tp ls w).1,.int (bU tp ls w).2]:=bH.of zqd;generalize av H9 pA (.tup [.int (bU tp ls w).1,.int (bU tp ls w).2])=HA at sA rA hpA ⊢;have s6A:=((s7.trans s8).trans s9).trans sA;refine⟨_,Z,pA,_,_,_,Z,Z,hpA,Z,_,_,Z,Z,_,Z,?_⟩;by_cases c:0<(bU tp ls w).1
  ·refine cJ c ?_;have bw:Wf 240 (dS (ws.take i) tp ls):=di (ie a.tp (λw h=>a.ok w (L0 h)) (by rw[K0];omega)) (by decide);refine⟨_,Z,_,Z,dv,.ref pA,dS (ws.take i) tp ls,bU tp ls w,240,240,Z,rd.mono (aT.same s6A),rA,bw,di (jt a.tp o) (by decide),by decide,λpB hB=>?_⟩;refine⟨.ref pB,_,_,_,_,_,Z,(s6.trans s6A).trans (ai hB _),?_⟩;rw[kX hwd,show eP tp ls w=bU tp ls w from if_pos c];exact RV.of zqd
  ·refine cA c ?_;refine⟨dv,_,_,_,_,_,Z,s6.trans s6A,?_⟩;rw[kX hwd,show eP tp ls w=(0,1) from if_neg c,tE (ie a.tp (λw h=>a.ok w (L0 h)) (by rw[K0];omega)).red];exact rd.mono (aT.same s6A)
 ·rintro σ H6 ⟨dv,x5,x6,x7,x8,x9,rfl,s6,rd⟩;rw[lxw,K2] at rd;have t6:=aT.same (K:=K) s6;refine⟨_,Z,_,Z,_,Z,pc,_,Z,.inr (t6 _ _ hC5),_,_,Z,Z,⟨K9 (show((hn:Nat):Int).natAbs≤9 from a.h9) (by decide),K9 (show(((aF ls).length:Nat):Int).natAbs≤24 by omega) (by decide)⟩,gI,λp7 h7=>?_⟩;have en:((hn:Nat):Int)*((aF ls).length:Int)=((hn*ls.length:Nat):Int):=by rw[nl,NL]
  dsimp only;rw[en];have s7:=ai h7 (.tup [.int ((hn*ls.length:Nat):Int),.int 1]);have r7:RV K (av H6 p7 (.tup [.int ((hn*ls.length:Nat):Int),.int 1])) (.ref p7) (((hn*ls.length:Nat):Int),1):=RV.of zqd;generalize av H6 p7 (.tup [.int ((hn*ls.length:Nat):Int),.int 1])=H7 at s7 r7 ⊢;have hm:hn*ls.length≤9*24:=Pk a.h9 l24;have wi:Wf 240 (((hn*ls.length:Nat):Int),1):=(fo (i:=((hn*ls.length:Nat):Int)) (n:=216) (by omega)).wf (by decide) (by decide) (by decide);refine⟨u,.ref p7,tp,(((hn*ls.length:Nat):Int),1),240,240,Z,(a5.rv.mono t6).mono (aT.same s7),r7,di a.tp (by decide),wi,by decide,λp8 h8=>?_⟩;have s8:=ai h8 (.tup [.int (c7 hn tp ls).1,.int (c7 hn tp ls).2]);have r8:RV K (av H7 p8 (.tup [.int (c7 hn tp ls).1,.int (c7 hn tp ls).2])) (.ref p8) (c7 hn tp ls):=RV.of zqd;refine⟨_,Z,.ref p8,dv,c7 hn tp ls,dS ws tp ls,240,240,Z,r8,rd.mono (aT.same (s7.trans s8)),di (mU a.tp a.h9 l24) (by decide),di (ie a.tp a.ok w9) (by decide),by decide,?_⟩;have sE:=(s5.trans s6).trans (s7.trans s8);rw[lq];exact k _ (s04.trans sE)
theorem Co(T:eS K mg t):bu P w K mg base dP 4 t.a_Q36 t.d_Q36 ["_law_works_here","_law_hands","_law_top","_law_plan"] (og K):=by
 refine T.F_Q36.ok uP (λvs H Q E h=>?_) (λcdv A outer s H vs Q E hr h=>?_)
 ·obtain⟨_,_,_,_,_,_,_,rfl,_⟩:=h;rfl
 obtain⟨v,u,x,ws,hn,tp,pl,rfl,wv,wo,h9,ru,tq,pv,po,le,k⟩:=h;refine dj.ok (ae (bF (cZ (cH (cQ (EH T) hr T.m_Q6 T.F_Q6.kp T.b_Q6 (aa (qv 0) (aa (qv 3) af ac) ac)))) (aj (aM c8)) aX) (ae (bT KD Z (db (qv 3)) (aA (i:=4) uP.nd Z (by first|exact KW Z|exact KR Z)) (ae (bF (aN (fP hr) (bc (N':=["_law_j","_law_amount","_law_top"]) (src:=[none,none,some 2]) Z (by exact(db (qv 4))) (λ_ _ _ _ _=>(by exact(by exact jy (K:=K) (n:=2) (by exact Z) (by exact Z) (by exact bB (by exact aA (i:=0) (by show KU (["_law_j","_law_amount","_law_top"]:List K1);decide +kernel) (by exact Z) (by first|exact KW Z|exact KR Z)) (by exact bB (by exact aA (i:=1) (by show KU (["_law_j","_law_amount","_law_top"]:List K1);decide +kernel) (by exact Z) (by first|exact KW Z|exact KR Z)) dY))))) (λ_ _ _ _ _=>(cX (cH (by exact(gz (ka T) (by exact hr.mono (by decide)) (by exact Z) T.m_Q15 T.F_Q15.kp T.b_Q15 (by exact .nil) (by exact dW) (aa (by exact(qv 2)) (aa (by exact(qv 1)) af ac) ac)))))) (λ_ _ _ _ _=>(by exact(by exact(qv 0)))) (by exact⟨Z,Z,Z,Z,trivial⟩) Z (by decide +kernel) Z (by decide +kernel) (by exact aW Z ⟨Z,trivial⟩)) (bO af) (aU _)) (aj (aM c8)) aX) (aj (bF (cH (cQ (ka T) hr T.m_Q15 T.F_Q15.kp T.b_Q15 (aa (cQ (j9 T) hr T.m_Q23 T.F_Q23.kp T.b_Q23 (aa (qv 2) (aa (bv (aa (qv 1) (aa ah af aG) ac)) af bQ) ac)) (aa (cQ (wM T) hr T.m_Q24 T.F_Q24.kp T.b_Q24 (aa (bc (N':=["_law_j","_law_amount"]) (src:=[none,none]) Z (by exact(db (qv 4))) (λ_ _ _ _ _=>(by exact(by exact jy (K:=K) (n:=2) (by exact Z) (by exact Z) (by exact bB (by exact aA (i:=0) (by show KU (["_law_j","_law_amount"]:List K1);decide +kernel) (by exact Z) (by first|exact KW Z|exact KR Z)) (by exact bB (by exact aA (i:=1) (by show KU (["_law_j","_law_amount"]:List K1);decide +kernel) (by exact Z) (by first|exact KW Z|exact KR Z)) dY))))) (λ_ _ _ _ _=>ck) (λ_ _ _ _ _=>(by exact(by exact(qv 1)))) (by exact trivial) Z (by decide +kernel) Z (by decide +kernel) (by exact aW Z trivial)) af cW)) af aK) aK))) (aj (aM c8)) aX)))) (aj (aM c8)))) ?_
 nofun
 refine⟨_,Z,_,Z,v,x,ws,pl,Z,wv,wo,pv,po,λH1 s1=>⟨_,Z,cO ?_⟩⟩;obtain⟨pp,ys,rfl,hpp,ap⟩:=pv;have hyl:=ap.len;have l24:=po.len;let Iv:Nat->L2.St->Hp->Prop:=λi σ H'=>∃x4:Option V,σ=[some v,some (.int (hn:Nat)),some u,some (.ref pp),x4]/\aC H H'
 refine⟨_,Z,pp,Z,⟨_,aT.same (K:=K) s1 _ _ hpp⟩,iw (K:=K) (a:=pp) (xs:=ys) Iv ⟨none,Z,s1⟩ (λi σ H' _ ⟨_,_,s'⟩=>aT.same (K:=K) s' _ _ hpp) ?_ ?_⟩
 ·rintro i y σ H2 hy ⟨x4,rfl,s2⟩;obtain⟨q,hq,pr,zs,rfl,hpr,az⟩:=ap.at hy;obtain⟨nd,pc⟩:=po.row i q hq;have lz:=az.len;have lq:=po.few q (Ke hq);obtain⟨le1,le2⟩:=le q (Ke hq);have t2:=aT.same (K:=K) s2;have hpr2:=t2 _ _ hpr;refine⟨_,Z,pr,Z,⟨_,hpr2⟩,λD hD=>bY (l5 hpr2) (λ_=>false) (λ_=>V.non) hD (by omega) (λj z H' hj s' hz R E kR kE=>?_) λH3 s3 h3=>?_⟩
  ·obtain⟨c,hc,pz,xa,rfl,hSc,rx⟩:=az.at hz;have mc:=Ke hc;obtain⟨_,_,_,c4,_⟩:=pc c mc;have t':=aT.same (K:=K) (s2.trans s');refine⟨pz,_,Z,t' _ _ hSc,Z,_,_,Z,_,_,Z,Z,(eU.set Z).set' Z,_,Z,_,Z,u,xa,tp,c.2,240,240,Z,ru.mono t',rx.mono t',di tq (by decide),c4.wf,by decide,_,Z,?_⟩;rw[(fL tq.pos c4.bq.pos).mpr (le1 c mc)];exact cO (kE Z _ (aC.refl _))
  rw[L8.mpr (λ_ _=>Kj)] at h3;refine⟨(by show 0≤sizeLine;exact KJ _),λpe hpe=>?_⟩;have sE0:=ai hpe (.lst []);have eE0:av H3 pe (.lst []) pe=some (.lst []):=zqd;have h4':=sE0 _ _ h3;have s04:=(s2.trans s3).trans sE0;generalize av H3 pe (.lst [])=H4 at s04 eE0 h4' ⊢;refine⟨.list [],.list [],.lst (aO.of h4') .nil,.lst (aO.of eE0) .nil,Z,Z,(by show 1≤32;decide),_,Z,cO ?_⟩;have t4:=aT.same (K:=K) s04;refine⟨_,Z,_,Z,gI,λp5 h5=>?_⟩;have s5:=ai h5 (.tup [.int (hn:Nat),.int 1]);have r5:RV K (av H4 p5 (.tup [.int (hn:Nat),.int 1])) (.ref p5) (((hn:Nat):Int),1):=RV.of zqd;generalize av H4 p5 (.tup [.int (hn:Nat),.int 1])=H5 at s5 r5 ⊢;have bh:=fo (i:=((hn:Nat):Int)) (n:=9) (by omega);have bt:Bq 279826853195846425060726789948611029097316354959409733296838400000 1944 (aJ tp (((hn:Nat):Int),1)):=(Bq.times tq bh).mono ⟨1,by decide⟩ (by decide);refine⟨u,.ref p5,tp,(((hn:Nat):Int),1),240,240,Z,(ru.mono t4).mono (aT.same s5),r5,di tq (by decide),bh.wf (by decide) (by decide) (by decide),by decide,λp6 h6=>?_⟩;have s6:=ai h6 (.tup [.int (aJ tp (((hn:Nat):Int),1)).1,.int (aJ tp (((hn:Nat):Int),1)).2]);have r6:RV K (av H5 p6 (.tup [.int (aJ tp (((hn:Nat):Int),1)).1,.int (aJ tp (((hn:Nat):Int),1)).2])) (.ref p6) (aJ tp (((hn:Nat):Int),1)):=RV.of zqd;have s46:=s5.trans s6;clear s6;generalize av H5 p6 (.tup [.int (aJ tp (((hn:Nat):Int),1)).1,.int (aJ tp (((hn:Nat):Int),1)).2])=H6 at s46 r6 ⊢;have s06:=s04.trans s46;have hpr6:=aT.same (K:=K) s06 _ _ hpr;refine⟨_,Z,pr,Z,⟨_,hpr6⟩,λD7 hD7=>eF (K:=K) (P:=RV K) (ds:=q) (f:=λc:Pc=>c.2) (λ_ _ _ _ t p=>p.mono t) hD7 hpr6 lz (by omega) (λj z d H' hz hd s' R E kR=>?_) λH7 zs7 s7 hD7' al7=>?_⟩
  ·obtain⟨d',hd',pd,xd,rfl,hSd,rd_⟩:=az.at hz;rw[hd] at hd'
   cases hd'
   have t':=aT.same (K:=K) (s06.trans s');refine⟨pd,_,Z,t' _ _ hSd,Z,_,_,Z,_,_,Z,Z,(eU.set Z).set' Z,_,Z,?_⟩;exact kR _ _ (aC.refl _) (rd_.mono t')
  have br:∀r∈q.map (λc:Pc=>c.2),Bq 279826853195846425060726789948611029097316354959409733296838400000 256 r:=λr hr=>by
   obtain⟨c,hc,rfl⟩:=Kc.mp hr;exact(pc c hc).2.2.2.1.bq
  have bs:=(gu (by decide) br).mono (MN _) (show 256*(q.map λc:Pc=>c.2).length≤5120 by rw[J7];omega);refine⟨D7,zs7,q.map λc:Pc=>c.2,Z,aO.of hD7',al7,br,by rw[J7];exact lq,λv8 H8 s8 r8=>?_⟩;refine⟨.ref p6,v8,aJ tp (((hn:Nat):Int),1),cN (q.map λc:Pc=>c.2),240,240,Z,(r6.mono (aT.same s7)).mono (aT.same s8),r8,di bt (by decide),bs.wf (by decide) (by decide) (by decide),by decide,_,Z,?_⟩;have ev:val (aJ tp (((hn:Nat):Int),1))=val tp*((hn:Nat):Rat):=by rw[eD tq.pos (by show(0:Int)<1;decide),ma]
  rw[(fL bt.pos bs.pos).mpr (by rw[ev];exact le2)];exact cO ⟨_,Z,(s06.trans s7).trans s8⟩
 ·rintro σ H2 ⟨x4,rfl,s2⟩;exact k _ s2
theorem CI(T:eS K mg t):bu P w K mg base dP 3 t.a_Q10 t.d_Q10 ["self","works","free","speed"] (ji K t.c_Pouring):=by
 refine T.F_Q10.ok uT (λvs H Q E h=>?_) (λcdv A outer s H vs Q E hr h=>?_)
 ·obtain⟨_,_,_,_,_,_,_,_,_,_,rfl,_⟩:=h;rfl
 obtain⟨x,dx,a,b,v,xs,ws,fr,r,D₀,rfl,hx,hA,al,g,nbx,hF,f24,f40,rv,r2,r1,r60,d0,d60,d84,rd,k⟩:=h;refine dj.ok (ae (cz 4 uT.nd (cQ (CF T) hr T.m_Q13 T.F_Q13.kp T.b_Q13 (aa (aD mZ (bO (aa (qv 3) af ac)) (bc (N':=["work"]) (src:=[none]) Z (by exact(db (qv 1))) (λ_ _ _ _ _=>(by exact(by exact aA (i:=0) (by show KU (["work"]:List K1);decide +kernel) (by exact Z) (by first|exact KW Z|exact KR Z)))) (λ_ _ _ _ _=>ck) (λ_ _ _ _ _=>(by exact(by exact(bG (cI (K:=K) (by exact Z)) (by exact(qv 0)) ah (by exact λ_ _=>Z))))) (by exact trivial) Z (by decide +kernel) Z (by decide +kernel) (by exact aW Z trivial))) af aR))) (ae (iT (qv 0) (qv 1) Z) (ae (iT (qv 0) (bL ba (qv 4) ah) Z) (ae (iT (qv 0) (im mM (qv 4) (jw ah) jx) Z) (ae (iT (qv 0) (im mM (qv 4) (jw ah) jx) Z) (ae (iT (qv 0) (bc (N':=["hands","parts"]) (src:=[none,some 4]) Z (by exact(cm (qv 2))) (λ_ _ _ _ _=>(by exact(by exact aA (i:=0) (by show KU (["hands","parts"]:List K1);decide +kernel) (by exact Z) (by first|exact KW Z|exact KR Z)))) (λ_ _ _ _ _=>ck) (λ_ _ _ _ _=>(by exact(by exact(aD bi (by exact(bG (cL (K:=K) (by exact Z)) (by exact(qv 1)) ah (by exact λ_ _=>Z))) (by exact(qv 0)))))) (by exact⟨Z,Z,Z,Z,trivial⟩) Z (by decide +kernel) Z (by decide +kernel) (by exact aW Z ⟨Z,trivial⟩)) Z) (aj (iT (qv 0) (bc (N':=["work"]) (src:=[none]) Z (by exact(db (qv 1))) (λ_ _ _ _ _=>(by exact(by exact aA (i:=0) (by show KU (["work"]:List K1);decide +kernel) (by exact Z) (by first|exact KW Z|exact KR Z)))) (λ_ _ _ _ _=>ck) (λ_ _ _ _ _=>(by exact(by exact(aD jA (by exact(bO (aa ah af aG))) (by exact(dt (v:=.int (24)) (by exact Z) T.m_TURNS ⟨_,Z⟩)))))) (by exact trivial) Z (by decide +kernel) Z (by decide +kernel) (by exact aW Z trivial)) Z)))))))) ?_
 nofun
 have hlen:=al.len;have l6:=g.len;have hS:bH K H a xs:=hA;refine⟨_,Z,yA,λl1 hl1=>?_⟩;have s1:=ai hl1 (.lst [v]);have e1:av H l1 (.lst [v]) l1=some (.lst [v]):=zqd;generalize av H l1 (.lst [v])=H1 at s1 e1 ⊢;have t1:=aT.same (K:=K) s1;refine⟨_,Z,a,Z,⟨_,t1 _ _ hS⟩,λl2 hl2=>eF (K:=K) (P:=RV K) (ds:=ws) (f:=λw:Wk=>w.2.2) (λ_ _ _ _ t p=>p.mono t) hl2 (t1 _ _ hS) hlen (by omega) (λi y w H' hy hw s' R E kR=>?_) λH2 ys s2 e2 al2=>?_⟩
 ·obtain⟨w',hw',pw,am,rfl,hpw,ram⟩:=al.at hy;rw[hw] at hw'
  cases hw'
  have t':=aT.same (K:=K) (s1.trans s');refine⟨eU.set Z,_,Z,pw,_,_,_,Z,Z,t' _ _ hpw,Z,?_⟩;exact kR _ _ (aC.refl _) (ram.mono t')
 have ly:=al2.len;rw[J7] at ly;refine⟨l1,l2,_,_,Z,Z,s2 _ _ e1,e2,(by rw[MO];show 1+ys.length≤_;omega),λl3 hl3=>?_⟩;have s3:=ai hl3 (.lst ([v]++ys));have e3:av H2 l3 (.lst ([v]++ys)) l3=some (.lst ([v]++ys)):=zqd;generalize av H2 l3 (.lst ([v]++ys))=H3 at s3 e3 ⊢;have s03:=(s1.trans s2).trans s3;have gr:∀q∈(r::ws.map λw=>w.2.2),0<q.2/\q.2∣(D₀:Int)/\q.1.natAbs<2^4000:=λq hq=>by
  rcases Kn.mp hq with z|z
  ·subst z;exact⟨r2,rd,Ky r60 (Li (by decide) (by decide))⟩
  ·obtain⟨w,hw,rfl⟩:=Kc.mp z;have gg:=(g.gd w hw).2.2.1;have d1:=gg.dvd;exact⟨gg.pos,NU d1 (LZ.mpr d84),aV (gg.wf (n:=20) (by decide) (by decide) (by decide)).top (by decide)⟩
 refine⟨l3,_,r::ws.map λw=>w.2.2,D₀,Z,aO.of e3,.cons (rv.mono (aT.same s03)) (al2.mono λ_ _ z=>z.mono (aT.same s3)),(by rw[Lb,J7];omega),d0,Ky d60 (Li (by decide) (by decide)),gr,λlq B H4 s4 hlq b0 bd all e4=>?_⟩;have s04:=s03.trans s4;have rB:=all r Kf;have wB:∀w∈ws,w.2.2.2∣B:=λw hw=>all _ (Km _ (Kc.mpr ⟨w,hw,Z⟩))
 have e4:H4 lq=some (.lst (V.int (dQ B r)::(ws.map λw=>dQ B w.2.2).map V.int)):=by
  rw[e4];unfold A0 dQ;rw[KH,KH,KY,KY,KY];rfl
 have hx4:=s04 _ _ hx;have nq:lq≠x:=λz=>by rw[z] at hlq;rw[s03 _ _ hx] at hlq;cases hlq
 have f4:H lq=none:=by
  cases q:H lq with
  |none=>rfl
  |some o=>rw[s03 _ _ q] at hlq;cases hlq
 have k4:∀b o,b≠x->H b=some o->H4 b=some o:=λb o _ e=>s04 b o e
 clear e1 e2 e3 hl1 hl2 hl3 s1 s2 s3 s03 s4 al2 hlq gr s04;refine⟨_,Z,_,Z,x,_,_,_,Z,hx4,T.cl_Pouring,T.n_Pouring_inside,(by show 0<1000;decide),?_⟩;generalize hh5:av H4 x (.ins t.c_Pouring dx (eW "inside" (.ref a) []))=H5;have x5:H5 x=some (.ins t.c_Pouring dx [("inside",.ref a)]):=by rw[←hh5];exact zqd
 have e5lq:H5 lq=some (.lst (V.int (dQ B r)::(ws.map λw=>dQ B w.2.2).map V.int)):=by rw[←hh5,ak nq];exact e4
 have k5:∀b o,b≠x->H b=some o->H5 b=some o:=λb o nb e=>by rw[←hh5,ak nb];exact k4 b o nb e
 clear hh5;refine⟨_,Z,lq,_,_,_,Z,Z,aO.of e5lq,aP (j:=0) Z,_,Z,x,_,_,_,Z,x5,T.cl_Pouring,T.n_Pouring_most,(by show 1<1000;decide),?_⟩;generalize hh6:av H5 x (.ins t.c_Pouring dx (eW "most" (.int (dQ B r)) [("inside",.ref a)]))=H6;have x6:H6 x=some (.ins t.c_Pouring dx [("inside",.ref a),("most",.int (dQ B r))]):=by rw[←hh6];exact zqd
 have e6lq:H6 lq=some (.lst (V.int (dQ B r)::(ws.map λw=>dQ B w.2.2).map V.int)):=by rw[←hh6,ak nq];exact e5lq
 have k6:∀b o,b≠x->H b=some o->H6 b=some o:=λb o nb e=>by rw[←hh6,ak nb];exact k5 b o nb e
 clear hh6;have ct:ky (V.int (dQ B r)::(ws.map λw=>dQ B w.2.2).map V.int) (some 1) none=((ws.map λw=>dQ B w.2.2).map V.int):=o1 (by show 1≤_+1;omega);refine⟨_,Z,_,Z,lq,_,Z,aO.of e6lq,λlw hlw=>?_⟩;rw[ct];have w6:=ai hlw (.lst ((ws.map λw=>dQ B w.2.2).map V.int));have nw:lw≠x:=λz=>by rw[z,x6] at hlw;cases hlw
 have nwq:lq≠lw:=aB e6lq hlw;refine⟨_,Z,x,_,_,_,Z,(w6 _ _ x6),T.cl_Pouring,T.n_Pouring_whole,(by show 2<1000;decide),?_⟩;generalize hh7:av (av H6 lw (.lst ((ws.map λw=>dQ B w.2.2).map V.int))) x (.ins t.c_Pouring dx (eW "whole" (.ref lw) [("inside",.ref a),("most",.int (dQ B r))]))=H7;have x7:H7 x=some (.ins t.c_Pouring dx [("inside",.ref a),("most",.int (dQ B r)),("whole",.ref lw)]):=by rw[←hh7];exact zqd
 have e7lq:H7 lq=some (.lst (V.int (dQ B r)::(ws.map λw=>dQ B w.2.2).map V.int)):=by rw[←hh7,ak nq];exact w6 _ _ e6lq
 have e7lw:H7 lw=some (.lst ((ws.map λw=>dQ B w.2.2).map V.int)):=by rw[←hh7,ak nw];exact zqd
 have k7:∀b o,b≠x->H b=some o->H7 b=some o:=λb o nb e=>by rw[←hh7,ak nb];exact w6 _ _ (k6 b o nb e)
 clear hh7;refine⟨_,Z,_,Z,lq,_,Z,aO.of e7lq,λlr hlr=>?_⟩;rw[ct];have w7:=ai hlr (.lst ((ws.map λw=>dQ B w.2.2).map V.int));have nr:lr≠x:=λz=>by rw[z,x7] at hlr;cases hlr
 have nrw:lw≠lr:=aB e7lw hlr;refine⟨_,Z,x,_,_,_,Z,(w7 _ _ x7),T.cl_Pouring,T.n_Pouring_rest,(by show 3<1000;decide),?_⟩;generalize hh8:av (av H7 lr (.lst ((ws.map λw=>dQ B w.2.2).map V.int))) x (.ins t.c_Pouring dx (eW "rest" (.ref lr) [("inside",.ref a),("most",.int (dQ B r)),("whole",.ref lw)]))=H8;have x8:H8 x=some (.ins t.c_Pouring dx [("inside",.ref a),("most",.int (dQ B r)),("whole",.ref lw),("rest",.ref lr)]):=by rw[←hh8];exact zqd
 have e8lq:H8 lq=some (.lst (V.int (dQ B r)::(ws.map λw=>dQ B w.2.2).map V.int)):=by rw[←hh8,ak nq];exact w7 _ _ e7lq
 have e8lw:H8 lw=some (.lst ((ws.map λw=>dQ B w.2.2).map V.int)):=by rw[←hh8,ak nw];exact w7 _ _ e7lw
 have e8lr:H8 lr=some (.lst ((ws.map λw=>dQ B w.2.2).map V.int)):=by rw[←hh8,ak nr];exact zqd
 have k8:∀b o,b≠x->H b=some o->H8 b=some o:=λb o nb e=>by rw[←hh8,ak nb];exact w7 _ _ (k7 b o nb e)
 clear hh8;have hF8:aO K H8 b (aF fr):=by
  rcases hF with(q | ⟨o,q⟩)|q
  ·exact .inl (.inl (k8 _ _ nbx q))
  ·exact .inl (.inr ⟨o,k8 _ _ nbx q⟩)
  ·exact .inr q
 have bq60:(B/r.2).natAbs<2^60:=by
  have h1:=Nu (by omega) bd;have h2:=OO r.2 (Lw b0);have h3:=Og (Lw b0) (Lw r2);omega
 have nf:(aF fr).length=24:=by unfold aF;rw[J7,f24]
 refine⟨_,Z,b,Z,⟨_,hF8⟩,λlo hlo=>bY (ic hF8) (λ_=>true) (λi=>V.int (dQ B r*((fr.getD i 0:Nat):Int))) hlo (by omega) (λi y H' hi s' hy R E kR kE=>?_) λH9 s9 h9=>?_⟩
 ·obtain⟨f,hf,rfl⟩:=dy hy;rw[au 0 hf] at kR;refine⟨eU.set Z,_,Z,lq,_,_,_,Z,Z,aO.of (s' _ _ e8lq),aP (j:=0) Z,_,Z,_,_,Z,Z,⟨?_,?_⟩,kR Z _ (aC.refl _)⟩
  ·exact aV (hV (n:=60) (m:=60) r60 bq60) (by decide)
  ·exact Ky (show((f:Nat):Int).natAbs<2^40 from f40 f (Ke hf)) (Li (by decide) (by decide))
 rw[nf] at h9;have h9':H9 lo=some (.lst ((fr.map λf:Nat=>dQ B r*(f:Int)).map V.int)):=by
  have e:=cP 0 (λf:Nat=>V.int (dQ B r*(f:Int))) fr;rw[f24] at e;rw[h9,e,KY];rfl
 have nlo:lo≠x:=λz=>by rw[z,x8] at hlo;cases hlo
 refine⟨_,Z,x,_,_,_,Z,(s9 _ _ x8),T.cl_Pouring,T.n_Pouring_room,(by show 4<1000;decide),?_⟩;generalize hh10:av H9 x (.ins t.c_Pouring dx (eW "room" (.ref lo) [("inside",.ref a),("most",.int (dQ B r)),("whole",.ref lw),("rest",.ref lr)]))=H10;have x10:H10 x=some (.ins t.c_Pouring dx [("inside",.ref a),("most",.int (dQ B r)),("whole",.ref lw),("rest",.ref lr),("room",.ref lo)]):=by rw[←hh10];exact zqd
 have e10lw:H10 lw=some (.lst ((ws.map λw=>dQ B w.2.2).map V.int)):=by rw[←hh10,ak nw];exact s9 _ _ e8lw
 have e10lr:H10 lr=some (.lst ((ws.map λw=>dQ B w.2.2).map V.int)):=by rw[←hh10,ak nr];exact s9 _ _ e8lr
 have e10lo:H10 lo=some (.lst ((fr.map λf:Nat=>dQ B r*(f:Int)).map V.int)):=by rw[←hh10,ak nlo];exact h9'
 have k10:∀b o,b≠x->H b=some o->H10 b=some o:=λb o nb e=>by rw[←hh10,ak nb];exact s9 _ _ (k8 b o nb e)
 clear hh10;have hS10:bH K H10 a xs:=by
  rcases hS with(q | ⟨o,q⟩)|q
  ·exact .inl (.inl (k10 _ _ (λz=>by rw[z,hx] at q;cases q) q))
  ·exact .inl (.inr ⟨o,k10 _ _ (λz=>by rw[z,hx] at q;cases q) q⟩)
  ·exact .inr q
 refine⟨_,Z,a,Z,⟨_,hS10⟩,λlp hlp=>kA (J:=yr K a) (n:=xs.length) (λi ys H'=>∃rows:List Addr,ys=rows.map V.ref/\rows.length=i/\rows.Nodup/\lp∉rows/\(∀q∈rows,H10 q=none)/\aC H10 H'/\H' lp=some (.lst ys)/\∀q∈rows,H' q=some (.lst (DA.map V.int))) ⟨[],Z,Z,Nz,(λz=>by cases z),(λr hr=>by cases hr),ai hlp _,zqd,λr hr=>by cases hr⟩ (λi ys H' hi ⟨rows,_,_,_,_,_,e6,_,_⟩=>⟨xs,_,aT.same (K:=K) e6 _ _ hS10,J6 hi⟩) (λys H' ⟨rows,e1,e2,e3,e4,e5,e6,e7,e8⟩=>⟨⟨xs,aT.same (K:=K) e6 _ _ hS10,Kb _⟩,?_⟩) ?_⟩
 ·have nlp:lp≠x:=λz=>by rw[z,x10] at hlp;cases hlp
  have nx:∀q∈rows,q≠x:=λq hq z=>by have:=e5 q hq;rw[z,x10] at this;cases this
  have fr0:∀q,q≠x->H10 q=none->H q=none:=λq nq h=>by
   cases c:H q with
   |none=>rfl
   |some o=>rw[k10 q o nq c] at h;cases h
  refine⟨_,Z,x,_,_,_,Z,(e6 _ _ x10),T.cl_Pouring,T.n_Pouring_poured,(by show 5<1000;decide),?_⟩;have x11:=e6 _ _ x10;refine k ⟨x,a,lw,lr,lo,lp,rows⟩ B _ (λb o nb e=>by rw[ak nb];exact e6 _ _ (k10 b o nb e)) Z Z ?_ b0 bd rB wB ?_
  ·intro q hq nq;have hq':q=x∨q=lw∨q=lr∨q=lo∨q=lp∨q∈rows:=by
    unfold iJ.l at hq
    simpa [or_assoc] using hq
   rcases hq' with z|rfl|rfl|rfl|rfl|z
   ·exact absurd z nq
   ·exact none_of (λo=>k6 _ o nq) hlw
   ·exact none_of (λo=>k7 _ o nq) hlr
   ·exact none_of (λo=>k8 _ o nq) hlo
   ·exact fr0 _ nq hlp
   ·exact fr0 _ nq (e5 _ z)
  ·have n1:lw≠lr:=nrw;have n2:lw≠lo:=aB e8lw hlo;have n3:lr≠lo:=aB e8lr hlo;have n4:lw≠lp:=aB e10lw hlp;have n5:lr≠lp:=aB e10lr hlp;have n6:lo≠lp:=aB e10lo hlp;have nrow:∀q∈rows,q≠lw/\q≠lr/\q≠lo:=λq hq=>by
    have h:=e5 q hq;exact⟨(λz=>by rw[z,e10lw] at h;cases h),(λz=>by rw[z,e10lr] at h;cases h),(λz=>by rw[z,e10lo] at h;cases h)⟩
   have tst:∀o:HO,aT K H (av H' x o):=λo b zs h=>by
    rcases h with(h | ⟨o,h⟩)|h
    ·have nb:b≠x:=λz=>by rw[z,hx] at h;cases h
     exact .inl (.inl (by rw[ak nb];exact e6 _ _ (k10 _ _ nb h)))
    ·have nb:b≠x:=λz=>by rw[z,hx] at h;cases h
     exact .inl (.inr ⟨o,by rw[ak nb];exact e6 _ _ (k10 _ _ nb h)⟩)
    ·exact .inr h
   refine⟨⟨dx,zqd⟩,⟨xs,tst _ _ _ hA,al.mono λ_ _ z=>z.mono (tst _)⟩,(by rw[ak nw];exact e6 _ _ e10lw),(by rw[ak nr];exact e6 _ _ e10lr),(by rw[ak nlo];exact e6 _ _ e10lo),(by rw[ak nlp,e7,e1]),?_,λi q r' h1 h2=>?_,?_,?_⟩
   ·show rows.length=(Ki ws.length DA).length;rw[LW,e2,hlen]
   ·have m:=Ke h1;have h2':(Ki ws.length DA)[i]?=some r':=h2;rw[(Os.mp (Ke h2')).2];show av H' x _ q=_;rw[ak (nx q m)];exact e8 q m
   ·show([x,lw,lr,lo,lp]++rows).Nodup;simp only[Qf,O0,Lo,Kn,not_or];exact⟨⟨nw.symm,nr.symm,nlo.symm,nlp.symm,λm=>nx x m Z⟩,⟨n1,n2,n4,λm=>(nrow _ m).1 Z⟩,⟨n3,n5,λm=>(nrow _ m).2.1 Z⟩,⟨n6,λm=>(nrow _ m).2.2 Z⟩,e4,e3⟩
   ·exact MB
 rintro i ys H1 y H2 hi ⟨rows,rfl,e2,e3,e4,e5,e6,e7,e8⟩ ⟨rfl,_⟩ R E kR kE;refine⟨eU.set Z,?_⟩;refine⟨yA,λq hq=>?_⟩;have s1:=ai hq (.lst [.int 0]);refine⟨q,.int 0,24,Z,Z,zqd,by omega,λr hr=>?_⟩;have s2:=ai hr (.lst (Ki 24 (.int 0)));have s12:=s1.trans s2;have nr_:r∉rows:=λm=>by rw[s1 _ _ (e8 r m)] at hr;cases hr
 have nD:r≠lp:=λz=>by subst z;rw[s1 _ _ e7] at hr;cases hr
 have hD4:=s12 _ _ e7;refine kR (.ref r) _ hD4 (bf (by rw[J7];omega)) ⟨rows++[r],by rw[Ku];rfl,by rw[Ko,e2];rfl,?_,?_,λz hz=>?_,λb o q=>?_,zqd,λz hz=>?_⟩
 ·rw[No];exact⟨e3,Lo.mpr ⟨(λz=>by cases z),Nz⟩,λa ha b hb=>by rw[Ks.mp hb];exact λz=>nr_ (by rw[←z];exact ha)⟩
 ·intro m;rcases KG.mp m with z|z
  ·exact e4 z
  ·exact nD (Ks.mp z).symm
 ·rcases KG.mp hz with y|y
  ·exact e5 z y
  ·rw[Ks.mp y]
   cases c:H10 r with
   |none=>rfl
   |some o=>rw[s1 _ _ (e6 _ _ c)] at hr;cases hr
 ·rw[ak (aB q hlp)];exact s12 _ _ (e6 _ _ q)
 ·rcases KG.mp hz with y|y
  ·rw[ak (show z≠lp from λw=>e4 (by rw[←w];exact y))];exact s12 _ _ (e8 z y)
  ·rw[Ks.mp y,ak nD,zqd];rfl
theorem EG(T:eS K mg t):bu P w K mg base dP 1 t.a_Q7 t.d_Q7 ["self","node"] (ii K t.c_Pouring):=by
 refine T.F_Q7.ok uO (λvs H Q E h=>?_) (λcdv A outer s H vs Q E hr h=>?_)
 ·obtain⟨_,_,_,rfl,_⟩:=h;rfl
 obtain⟨p,s₀,v,rfl,pv,ok,hv,k⟩:=h;refine dj.ok (ae (cz 2 uO.nd (aH aI (by rfl) T.z_len LM (aa (cB (qv 0) Z) af fB))) (ae (bF (aN wF (qv 1) (qv 2) (aU _)) (aj (aM (bc (N':=["number","node","count","self"]) (src:=[none,some 1,some 2,some 0]) Z (by exact(bW Z T.z_range (aa (qv 2) af ac))) (λ_ _ _ _ _=>(by exact(by exact aA (i:=0) (by show KU (["number","node","count","self"]:List K1);decide +kernel) (by exact Z) (by first|exact KW Z|exact KR Z)))) (λ_ _ _ _ _=>(cX (aN ip (by exact(bG (cL (K:=K) (by exact Z)) (by exact(bG (cL (K:=K) (by exact Z)) (by exact(io (K:=K) (by exact Z) (by exact(qv 3)) (by exact Z))) (by exact(qv 0)) (by exact λ_ _=>Z))) (by exact(aD de (by exact(qv 1)) (by exact(qv 2)))) (by exact λ_ _=>Z))) ah (aU _)))) (λ_ _ _ _ _=>(by exact(by exact(qv 0)))) (by exact⟨Z,Z,Z,Z,⟨Z,Z,Z,Z,⟨Z,Z,Z,Z,trivial⟩⟩⟩) Z (by decide +kernel) Z (by decide +kernel) (by exact aW Z ⟨Z,⟨Z,⟨Z,trivial⟩⟩⟩)))) aX) (ae (cz 3 uO.nd (bL ay (cB (qv 0) Z) (qv 1))) (aj (aM (bc (N':=["turn","count","self","node"]) (src:=[none,some 2,some 0,some 1]) Z (by exact(gy Z T.z_range (aa (bG ay (qv 3) ah (λ_ _=>Z)) (aa (aD cf (bG ay (qv 3) ah (λ_ _=>Z)) ah) af aR) aQ))) (λ_ _ _ _ _=>(by exact(by exact aA (i:=0) (by show KU (["turn","count","self","node"]:List K1);decide +kernel) (by exact Z) (by first|exact KW Z|exact KR Z)))) (λ_ _ _ _ _=>(cX (aN fV (by exact(bG (cL (K:=K) (by exact Z)) (by exact(bG (cL (K:=K) (by exact Z)) (by exact(io (K:=K) (by exact Z) (by exact(qv 2)) (by exact Z))) (by exact(qv 3)) (by exact λ_ _=>Z))) (by exact(qv 0)) (by exact λ_ _=>Z))) (by exact(io (K:=K) (by exact Z) (by exact(qv 2)) (by exact Z))) (aU _)))) (λ_ _ _ _ _=>(by exact(by exact(aD cf (by exact(qv 1)) (by exact(qv 0)))))) (by exact⟨Z,Z,Z,Z,⟨Z,Z,Z,Z,⟨Z,Z,Z,Z,trivial⟩⟩⟩) Z (by decide +kernel) Z (by decide +kernel) (by exact aW Z ⟨Z,⟨Z,⟨Z,trivial⟩⟩⟩))))))) ?_
 nofun
 obtain⟨dx,hi⟩:=pv.ins;obtain⟨xs,hx,al⟩:=pv.hi;have hlen:=al.len;refine⟨_,Z,p.a,_,_,_,_,Z,hi,T.cl_Pouring,T.n_Pouring_inside,Z,p.li,_,Z,.inr hx,?_⟩;refine⟨_,Z,_,Z,_,_,Z,Z,_,Z,?_⟩;have n20:=ok.n20;have hpl:=pv.rl;have olp:=ok.lp;have at2:=λ(H':Hp) (z:aC H H') (i t:Nat) (hi:i<s₀.ws.length) (ht:t<24)=>(pv.same z).cell ok hi ht
 by_cases c:s₀.ws.length≤v
 ·refine cJ (by omega) ?_;refine⟨_,Z,xs.length,Z,by omega,by omega,λD hD=>bY (fK (lo:=0) (n:=((xs.length:Nat):Int).toNat)) (λi=>decide (0<s₀.pf i (v-s₀.ws.length))) (λi=>V.int (i:Nat)) hD (by omega) (λi x H' hi' s' hx' R E kR kE=>?_) λH4 s4 h4=>?_⟩
  ·subst hx';rw[MM];obtain⟨q,r,g1,g2,g3,g4⟩:=at2 H' s' i (v-s₀.ws.length) (by omega) (by omega);refine⟨eU.set Z,_,Z,p.a,_,_,_,_,Z,s' _ _ hi,T.cl_Pouring,T.n_Pouring_poured,Z,_,Z,p.lp,_,_,_,Z,Z,aO.of g1,aP g2,_,Z,_,Z,_,_,Z,Z,q,_,_,_,Z,Z,aO.of g3,(by rw[show(v:Int)-(xs.length:Nat)=((v-s₀.ws.length:Nat):Int) by omega];exact aP g4),_,_,Z,Z,_,Z,?_⟩;by_cases d:0<s₀.pf i (v-s₀.ws.length)
   ·exact cJ (by omega) ⟨_,Z,kR (decide_eq_true d) _ (aC.refl _)⟩
   ·exact cA (by omega) (kE (decide_eq_false d) _ (aC.refl _))
  ·refine k D H4 s4 hD ?_;rw[h4,MS,hlen];unfold eg aF;rw[if_pos c]
 refine cA (by omega) ?_;obtain⟨xw,hxw⟩:∃xw,xs[v]?=some xw:=⟨_,J6 (by omega)⟩;obtain⟨w,hw,pw,am,rfl,hpw,ram⟩:=al.at hxw;have ew:s₀.ws.getD v cC=w:=au cC hw;obtain⟨w1,w2⟩:=ok.wk w (Ke hw);refine⟨_,Z,p.a,_,_,_,_,Z,hi,T.cl_Pouring,T.n_Pouring_inside,Z,_,Z,p.li,_,_,_,Z,Z,hx,aP hxw,?_⟩;refine⟨_,Z,pw,_,_,_,Z,Z,hpw,Z,_,Z,pw,_,_,_,Z,Z,hpw,Z,_,_,Z,Z,(w.1:Int),(w.2.1:Int)+1,Z,⟨by omega,by omega,by omega,by omega⟩,λD hD=>bY (fK (lo:=(w.1:Int)) (n:=((w.2.1:Int)+1-(w.1:Int)).toNat)) (λj=>decide (s₀.pf v (w.1+j)<s₀.M)) (λj=>V.int ((s₀.ws.length+(w.1+j):Nat):Int)) hD (by omega) (λi x H' hi' s' hx' R E kR kE=>?_) λH4 s4 h4=>?_⟩
 ·subst hx';obtain⟨q,r,g1,g2,g3,g4⟩:=at2 H' s' v (w.1+i) (by omega) (by omega);have ei:(w.1:Int)+(i:Nat)=((w.1+i:Nat):Int):=by omega
  rw[ei];refine⟨eU.set Z,_,Z,p.a,_,_,_,_,Z,s' _ _ hi,T.cl_Pouring,T.n_Pouring_poured,Z,_,Z,p.lp,_,_,_,Z,Z,aO.of g1,aP g2,_,Z,q,_,_,_,Z,Z,aO.of g3,aP g4,_,Z,p.a,_,_,_,_,Z,s' _ _ hi,T.cl_Pouring,T.n_Pouring_most,Z,_,_,Z,Z,_,Z,?_⟩;by_cases d:s₀.pf v (w.1+i)<s₀.M
  ·refine cJ (by omega) ⟨_,Z,_,Z,_,_,Z,Z,?_⟩;have q:=kR (decide_eq_true d) _ (aC.refl _);rw[show((s₀.ws.length+(w.1+i):Nat):Int)=((xs.length:Nat):Int)+((w.1+i:Nat):Int) by omega] at q;exact q
  ·exact cA (by omega) (kE (decide_eq_false d) _ (aC.refl _))
 ·refine k D H4 s4 hD ?_;rw[h4,show((w.2.1:Int)+1-(w.1:Int)).toNat=w.2.1+1-w.1 by omega];unfold eg aF;rw[if_neg c,ew,KY];rfl
theorem EJ(T:eS K mg t):bu P w K mg base dP 2 t.a_Q4 t.d_Q4 ["self","numbers"] (gY K t.c_Pouring):=by
 refine T.F_Q4.ok i5 (λvs H Q E h=>?_) (λcdv A outer s H vs Q E hr h=>?_)
 ·obtain⟨_,_,_,_,rfl,_⟩:=h;rfl
 obtain⟨p,s₀,a,ns,rfl,pv,ok,hS,nd,lt,k⟩:=h;refine dj.ok (ae (cz 2 i5.nd j3) (ae (cz 3 i5.nd (cE iE (by rfl) T.z_list Tt (aa (qv 1) af ac))) (ae (bT KD Z (cm (qv 1)) (aA (i:=4) i5.nd Z (by first|exact KW Z|exact KR Z)) (aj (ju (iu hr) (qv 2) (qv 4) vS Z))) (ae (cz 5 i5.nd ah) (ae (fE KD (aN fV (qv 5) (aH aI (by rfl) T.z_len LM (aa (qv 3) af ac)) (aU _)) (ae (cz 6 i5.nd (bL ba (qv 3) (qv 5))) (ae (bT KD Z (cm (fc (qv 0) T.cl_Pouring T.M_Pouring_beside (EG T) (hr.mono (by decide)) T.b_Q7 .nil dW (aa (qv 6) af ac))) (aA (i:=7) i5.nd Z (by first|exact KW Z|exact KR Z)) (aj (bF (tw (iu hr) (qv 7) (qv 2) (by with_unfolding_all rfl)) (ae (ju (iu hr) (qv 2) (qv 7) (qv 6) Z) (aj (da (gQ Lr Ly Lz cF (qv 3) (aa (qv 7) af ac))))) aX))) (aj (BJ (i:=5) i5.nd Z (by first|exact KW Z|exact KR Z) ah xl))))) (aj (aM (qv 2)))))))) ?_
 nofun
 refine λd hd=>?_
 have s1:=ai hd (.dK []);have e1:av H d (.dK []) d=some (.dK (b8 [])):=zqd;generalize av H d (.dK [])=H1 at s1 e1 ⊢;refine⟨_,Z,a,aF ns,Z,.inl (s1.seq hS),λlr hlr=>?_⟩;have s2:=ai hlr (.lst (aF ns));have r2:av H1 lr (.lst (aF ns)) lr=some (.lst (aF ns)):=zqd;have e2:=s2 _ _ e1;have ndr:d≠lr:=aB e1 hlr;generalize av H1 lr (.lst (aF ns))=H2 at s2 r2 e2 ⊢;have s02:=s1.trans s2;have h0r:H lr=none:=by
  cases q:H lr with
  |none=>rfl
  |some o=>rw[s1 _ _ q] at hlr;cases hlr
 have nl:(aF ns).length=ns.length:=J7 _;let Iv1:Nat->L2.St->Hp->Prop:=λi σ H'=>∃x4:Option V,σ=[some (.ref p.a),some (.ref a),some (.ref d),some (.ref lr),x4,none,none,none]/\(∀b o,b≠d->H2 b=some o->H' b=some o)/\H' d=some (.dK (b8 ((ns.take i).map λv=>(v,none))))
 refine⟨_,Z,a,Z,⟨_,s02.seq hS⟩,cU (K:=K) (a:=a) (xs:=aF ns) Iv1 ⟨none,Z,λ_ _ _ e=>e,e2⟩ (λi σ H' _ ⟨_,_,k',_⟩=>(show aC H H' from λb o e=>k' b o (λz=>by rw[z,hd] at e;cases e) (s02 _ _ e)).seq hS) ?_ ?_⟩
 ·rintro i x σ H3 hx ⟨x4,rfl,k3,e3⟩;obtain⟨v,hv,rfl⟩:=dy hx;have il:=(Kg.mp hv).1;have nv:v∉((ns.take i).map λv=>((v,none):Nat×Option Nat)).map (·.1):=λm=>by
   rw[KY] at m;have m':v∈ns.take i:=by
    obtain⟨w,hw,e⟩:=Kc.mp m;have e':w=v:=e;rw[←e'];exact hw
   obtain⟨j,hj,ej⟩:=Lj.mp m';rw[K0] at hj;rw[PH] at ej;have ei:=(Kg.mp hv).2;have:=(Na nd).mp (ej.trans ei.symm);omega
  refine⟨_,Z,_,Z,d,_,Z,kW.k (k:=KN (v:Int)) e3 (by unfold b8;rw[J7,J7,K0,MO];have:=fQ nd lt;have:=ok.n20;omega),?_⟩;refine⟨_,Z,λb o nb e=>by rw[ak nb];exact k3 b o nb e,?_⟩;rw[zqd,KP,hv];show some (HO.dK (dZ (b8 ((ns.take i).map λv=>(v,none))) (KN (v:Int)) (oV none)))=_;rw[Eo nv,Ku];rfl
 rintro σ H3 ⟨x4,rfl,k3,e3⟩;rw[nl,K2] at e3;have S0:=sX (s:=s₀) nd lt;have r3:=k3 _ _ ndr.symm r2;have rk:aF ns=aF ((ns.map λv=>((v,none):Nat×Option Nat)).map (·.1)):=by rw[KY];exact congrArg aF (PF _).symm
 rw[rk] at r3;generalize (ns.map λv=>((v,none):Nat×Option Nat))=sl0 at e3 S0 r3;have n20:=ok.n20;let Iv2:Nat->L2.St->Hp->Prop:=λm σ H'=>∃(sl:Sl) (pl:Nat) (x6 x7:Option V),σ=[some (.ref p.a),some (.ref a),some (.ref d),some (.ref lr),x4,some (.int (pl:Nat)),x6,x7]/\(∀b o,b≠d->b≠lr->H2 b=some o->H' b=some o)/\H' d=some (.dK (b8 sl))/\H' lr=some (.lst (aF (sl.map (·.1))))/\jq s₀ ns sl/\Fg s₀ sl pl/\pl≤sl.length/\m=s₀.ws.length+24-pl
 refine⟨Iv2,⟨_,sl0,0,none,none,Z,λb o nb _ e=>k3 b o nb e,e3,r3,S0,(λi v o hi=>by omega),KJ _,Z⟩,?_⟩;rintro m σ H4 ⟨sl,pl,x6,x7,rfl,k4,e4,r4,S4,C4,l4,rfl⟩;have ln4:(aF (sl.map (·.1))).length=sl.length:=by unfold aF;rw[J7,J7]
 have sll:=mN S4;have m4:aC H H4:=λb o e=>k4 b o (λz=>by rw[z,hd] at e;cases e) (λz=>by rw[z,h0r] at e;cases e) (s02 _ _ e)
 refine⟨_,Z,_,Z,lr,_,Z,.inl (aO.of r4),_,_,Z,Z,_,Z,?_⟩;by_cases c:pl<sl.length
 rotate_left
 ·refine cA (by omega) ?_;have:pl=sl.length:=by omega
  subst this;exact⟨_,Z,k d sl H4 m4 hd S4 C4 e4⟩
 refine cJ (by omega) ?_;refine⟨_,λ_ _ z=>z,?_⟩;obtain⟨⟨v,o⟩,hvo⟩:∃x,sl[pl]?=some x:=⟨_,J6 c⟩;have vk:(aF (sl.map (·.1)))[pl]?=some (.int (v:Nat)):=by unfold aF;rw[Kt,Kt,hvo];rfl
 have hv:v<s₀.ws.length+24:=S4.lt _ (Ke hvo);refine⟨_,Z,_,Z,lr,_,_,_,Z,Z,aO.of r4,aP vk,?_⟩;have pv4:=pv.same m4;obtain⟨dx4,hi4⟩:=pv4.ins;refine⟨_,Z,p.a,_,_,Z,hi4,Z,_,Z,p,s₀,v,Z,pv4,ok,hv,λlb HB sB hlb eB=>?_⟩;have nbd:lb≠d:=λz=>by rw[z,e4] at hlb;cases hlb
 have nbr:lb≠lr:=λz=>by rw[z,r4] at hlb;cases hlb
 let Iv3:Nat->L2.St->Hp->Prop:=λj σ H'=>∃(ex:Sl) (y7:Option V),σ=[some (.ref p.a),some (.ref a),some (.ref d),some (.ref lr),x4,some (.int (pl:Nat)),some (.int (v:Nat)),y7]/\(∀b o,b≠d->b≠lr->HB b=some o->H' b=some o)/\H' d=some (.dK (b8 (sl++ex)))/\H' lr=some (.lst (aF ((sl++ex).map (·.1))))/\jq s₀ ns (sl++ex)/\∀u∈(eg s₀ v).take j,u∈(sl++ex).map (·.1)
 refine⟨lb,Z,⟨_,aO.of eB⟩,cU (K:=K) (a:=lb) (xs:=aF (eg s₀ v)) Iv3 ⟨[],x7,Z,λ_ _ _ _ e=>e,(by rw[LF];exact sB _ _ e4),(by rw[LF];exact sB _ _ r4),(by rw[LF];exact S4),(λu hu=>by cases hu)⟩ (λj σ H' _ ⟨_,_,_,k',_⟩=>aO.of (k' _ _ nbd nbr eB)) ?_ ?_⟩
 ·rintro j x σ H5 hx ⟨ex,y7,rfl,k5,e5,r5,S5,C5⟩;obtain⟨u,hu,rfl⟩:=dy hx;have mu:=Ke hu;have ul:=Df ok hv mu;have tk:∀w∈(eg s₀ v).take (j+1),w∈(eg s₀ v).take j∨w=u:=λw hw=>by
   rw[KP,hu] at hw;rcases KG.mp hw with z|z
   ·exact .inl z
   ·exact .inr (by simpa using z)
  have s5l:=mN S5;refine⟨_,Z,_,Z,d,_,Z,ib.k (k:=KN (u:Int)) e5,_,Z,?_⟩;rw[DP];by_cases cu:u∈(sl++ex).map (·.1)
  ·rw[decide_eq_true cu];refine cO ?_;refine⟨ex,_,Z,k5,e5,r5,S5,λw hw=>?_⟩;rcases tk w hw with z|z
   ·exact C5 w z
   ·rw[z];exact cu
  rw[decide_eq_false cu];refine hZ ?_;refine⟨_,Z,_,Z,_,Z,d,_,Z,kW.k (k:=KN (u:Int)) (v:=V.int (v:Nat)) e5 (by unfold b8;rw[J7,MO];omega),?_⟩;rw[show V.int (v:Nat)=oV (some v) from Z,Eo cu];have r6:av H5 d (.dK (b8 (sl++ex++[(u,some v)]))) lr=some (.lst (aF ((sl++ex).map (·.1)))):=by rw[ak ndr.symm];exact r5
  have e6:av H5 d (.dK (b8 (sl++ex++[(u,some v)]))) d=some (.dK (b8 (sl++ex++[(u,some v)]))):=zqd;have k6:∀b o,b≠d->b≠lr->HB b=some o->av H5 d (.dK (b8 (sl++ex++[(u,some v)]))) b=some o:=λb o n1 n2 e=>by rw[ak n1];exact k5 b o n1 n2 e
  generalize av H5 d (.dK (b8 (sl++ex++[(u,some v)])))=H6 at r6 e6 k6 ⊢;refine⟨_,Z,.inl ⟨Z,_,aO.of r6⟩,_,Z,lr,_,_,Z,Z,r6,bf (by unfold aF;rw[J7,J7];omega),?_⟩;have S6:=S5.more ul cu mu (j:=pl) (o:=o) (by rw[LC c];exact hvo);rw[Mt] at e6 S6;refine⟨ex++[(u,some v)],_,Z,λb o n1 n2 e=>by rw[ak n2];exact k6 b o n1 n2 e,(by rw[ak ndr];exact e6),?_,S6,λw hw=>?_⟩
  ·have en:aF ((sl++ex++[(u,some v)]).map (·.1))=aF ((sl++ex).map (·.1))++[V.int (u:Nat)]:=by
    unfold aF;rw[Ku (l₁:=sl++ex),Ku];rfl
   rw[zqd,←Mt,en]
  ·rw[←Mt,Ku];rcases tk w hw with z|z
   ·exact La _ (C5 w z)
   ·rw[z];exact Kw _ (Ks.mpr Z)
 ·rintro σ H5 ⟨ex,y7,rfl,k5,e5,r5,S5,C5⟩;have lb_:(aF (eg s₀ v)).length=(eg s₀ v).length:=J7 _;rw[lb_,K2] at C5;have C6:Fg s₀ (sl++ex) (pl+1):=λi w o' hi hw u hu=>by
   by_cases ci:i<pl
   ·rw[LC (by omega)] at hw;have q:=C4 i w o' ci hw u hu;rw[Ku];exact La _ q
   ·obtain rfl:i=pl:=by omega
    rw[LC c,hvo] at hw;injection hw with hw;injection hw with hw _;subst hw;exact C5 u hu
  refine⟨_,Z,_,_,Z,Z,?_⟩;have ei:((pl:Nat):Int)+1=((pl+1:Nat):Int):=by omega
  refine⟨s₀.ws.length+24-(pl+1),by omega,sl++ex,pl+1,_,_,by rw[←ei];rfl,λb o n1 n2 e=>k5 b o n1 n2 (sB _ _ (k4 b o n1 n2 e)),e5,r5,S5,C6,by rw[Ko];omega,Z⟩
theorem AM(T:eS K mg t):bu P w K mg base dP 1 t.a_Q3 t.d_Q3 ["self","sources"] (gK K t.c_Pouring):=by
 refine T.F_Q3.ok AE (λvs H Q E h=>?_) (λcdv A outer s H vs Q E hr h=>?_)
 ·obtain⟨_,_,_,_,rfl,_⟩:=h;rfl
 obtain⟨p,s₀,d,sl,rfl,pv,ok,e,l60,k⟩:=h;refine dj.ok (ae (cz 2 AE.nd (aH aI (by rfl) T.z_len LM (aa (cB (qv 0) Z) af fB))) (aj (aM (bc (N':=["node","count"]) (src:=[none,some 2]) Z (by exact(vN (qv 1))) (λ_ _ _ _ _=>(by exact(by exact aA (i:=0) (by show KU (["node","count"]:List K1);decide +kernel) (by exact Z) (by first|exact KW Z|exact KR Z)))) (λ_ _ _ _ _=>(cX (aN wF (by exact(qv 0)) (by exact(qv 1)) (aU _)))) (λ_ _ _ _ _=>(by exact(by exact(aD de (by exact(qv 0)) (by exact(qv 1)))))) (by exact⟨Z,Z,Z,Z,trivial⟩) Z (by decide +kernel) Z (by decide +kernel) (by exact aW Z ⟨Z,trivial⟩))))) ?_
 nofun
 obtain⟨dx,hi⟩:=pv.ins;obtain⟨xs,hx,al⟩:=pv.hi;have hlen:=al.len;refine⟨_,Z,p.a,_,_,_,_,Z,hi,T.cl_Pouring,T.n_Pouring_inside,Z,p.li,_,Z,.inr hx,?_⟩;have le:(b8 sl).length=sl.length:=J7 _;rcases e with e | ⟨ob,e2⟩
 ·refine⟨_,Z,d,b8 sl,Z,.inl ⟨e,λob D hD=>?_⟩⟩;have e2:av H d (.frz ob (.dK (b8 sl))) d=some (.frz ob (.dK (b8 sl))):=zqd;have k2:∀b o,b≠d->H b=some o->av H d (.frz ob (.dK (b8 sl))) b=some o:=λb o nb q=>by rw[ak nb];exact q
  have hD0:H D=none:=by
   cases q:H D with
   |none=>rfl
   |some o=>
    by_cases c:D=d
    ·rw[c,e2] at hD;cases hD
    ·rw[k2 _ _ c q] at hD;cases hD
  generalize av H d (.frz ob (.dK (b8 sl)))=H1 at hD e2 k2 ⊢;refine bY (nP e2) (λi=>decide (s₀.ws.length≤(sl.getD i (0,none)).1)) (λi=>V.int (((sl.getD i (0,none)).1-s₀.ws.length:Nat):Int)) hD (by omega) (λi x H' hi' s' hx' R E kR kE=>?_) λH4 s4 h4=>?_
  ·obtain⟨kk,vv,rfl,hkv⟩:=hx';obtain⟨y,hy,rfl,rfl⟩:=xK hkv;have g:sl.getD i (0,none)=y:=au _ hy;rw[g] at kR kE;refine⟨eU.set Z,_,Z,_,Z,_,_,Z,Z,_,Z,?_⟩;by_cases c:s₀.ws.length≤y.1
   ·refine cJ (by omega) ⟨_,Z,_,Z,_,_,Z,Z,?_⟩;have q:=kR (decide_eq_true c) _ (aC.refl _);rw[show((y.1-s₀.ws.length:Nat):Int)=((y.1:Nat):Int)-((xs.length:Nat):Int) by omega] at q;exact q
   ·exact cA (by omega) (kE (decide_eq_false c) _ (aC.refl _))
  ·refine k D ob H4 (λb o nb q=>s4 _ _ (k2 b o nb q)) (s4 _ _ e2) (λo' q=>by rw[e] at q;cases q) hD0 ?_;rw[h4,le];unfold gN aF;rw[KY];rfl
 ·refine⟨_,Z,d,b8 sl,Z,.inr ⟨ob,e2,λD hD=>?_⟩⟩;have k2:∀b o,b≠d->H b=some o->H b=some o:=λ_ _ _ q=>q
  have hD0:=hD;refine bY (nP e2) (λi=>decide (s₀.ws.length≤(sl.getD i (0,none)).1)) (λi=>V.int (((sl.getD i (0,none)).1-s₀.ws.length:Nat):Int)) hD (by omega) (λi x H' hi' s' hx' R E kR kE=>?_) λH4 s4 h4=>?_
  ·obtain⟨kk,vv,rfl,hkv⟩:=hx';obtain⟨y,hy,rfl,rfl⟩:=xK hkv;have g:sl.getD i (0,none)=y:=au _ hy;rw[g] at kR kE;refine⟨eU.set Z,_,Z,_,Z,_,_,Z,Z,_,Z,?_⟩;by_cases c:s₀.ws.length≤y.1
   ·refine cJ (by omega) ⟨_,Z,_,Z,_,_,Z,Z,?_⟩;have q:=kR (decide_eq_true c) _ (aC.refl _);rw[show((y.1-s₀.ws.length:Nat):Int)=((y.1:Nat):Int)-((xs.length:Nat):Int) by omega] at q;exact q
   ·exact cA (by omega) (kE (decide_eq_false c) _ (aC.refl _))
  ·refine k D ob H4 (λb o nb q=>s4 _ _ (k2 b o nb q)) (s4 _ _ e2) (λo' q=>by rw[e2] at q;cases q;rfl) hD0 ?_;rw[h4,le];unfold gN aF;rw[KY];rfl
theorem EL(T:eS K mg t):bu P w K mg base dP 1 t.a_Q0 t.d_Q0 ["self","source","node"] (fC K t.c_Pouring):=by
 refine T.F_Q0.ok AF (λvs H Q E h=>?_) (λcdv A outer s H vs Q E hr h=>?_)
 ·obtain⟨_,_,_,_,rfl,_⟩:=h;rfl
 obtain⟨p,s₀,u,v,rfl,pv,ok,ed,k⟩:=h;refine dj.ok (ae (cz 3 AF.nd (aH aI (by rfl) T.z_len LM (aa (cB (qv 0) Z) af fB))) (ae (bF (aN fV (qv 1) (qv 3) (aU _)) (aj (aM (aD de (cB (qv 0) Z) (bL ba (bL ba (cB (qv 0) Z) (qv 1)) (aD de (qv 2) (qv 3)))))) aX) (aj (aM (bL ba (bL ba (cB (qv 0) Z) (qv 2)) (aD de (qv 1) (qv 3))))))) ?_
 nofun
 obtain⟨dx,hi⟩:=pv.ins;obtain⟨xs,hx,al⟩:=pv.hi;have hlen:=al.len;refine⟨_,Z,p.a,_,_,_,_,Z,hi,T.cl_Pouring,T.n_Pouring_inside,Z,p.li,_,Z,.inr hx,?_⟩;refine⟨_,Z,_,Z,_,_,Z,Z,_,Z,?_⟩;by_cases c:u<s₀.ws.length
 ·refine cJ (by omega) ?_;have hv:s₀.ws.length≤v/\v<s₀.ws.length+24:=by
   rcases ed with⟨_,a,b⟩ | ⟨a,_,_⟩<;>omega
  obtain⟨q,r,g1,g2,g3,g4⟩:=pv.cell ok (t:=v-s₀.ws.length) c (by omega);refine⟨_,Z,p.a,_,_,_,_,Z,hi,T.cl_Pouring,T.n_Pouring_most,Z,_,Z,p.a,_,_,_,_,Z,hi,T.cl_Pouring,T.n_Pouring_poured,Z,_,Z,p.lp,_,_,_,Z,Z,aO.of g1,aP g2,_,Z,_,Z,_,_,Z,Z,q,_,_,_,Z,Z,aO.of g3,(by rw[show(v:Int)-(xs.length:Nat)=((v-s₀.ws.length:Nat):Int) by omega];exact aP g4),_,_,Z,Z,?_⟩;unfold wV at k;rw[if_pos c] at k;exact k
 ·refine cA (by omega) ?_;have hv:u<s₀.ws.length+24/\v<s₀.ws.length:=by
   rcases ed with⟨_,a,b⟩ | ⟨a,_,_⟩<;>omega
  obtain⟨q,r,g1,g2,g3,g4⟩:=pv.cell ok (t:=u-s₀.ws.length) hv.2 (by omega);refine⟨_,Z,p.a,_,_,_,_,Z,hi,T.cl_Pouring,T.n_Pouring_poured,Z,_,Z,p.lp,_,_,_,Z,Z,aO.of g1,aP g2,_,Z,_,Z,_,_,Z,Z,q,_,_,_,Z,Z,aO.of g3,(by rw[show(u:Int)-(xs.length:Nat)=((u-s₀.ws.length:Nat):Int) by omega];exact aP g4),?_⟩;unfold wV at k;rw[if_neg c] at k;exact k
theorem CH(T:eS K mg t):bu P w K mg base dP 1 t.a_Q11 t.d_Q11 ["self","source","node","amount"] (jh K t.c_Pouring):=by
 refine T.F_Q11.ok uS (λvs H Q E h=>?_) (λcdv A outer s H vs Q E hr h=>?_)
 ·obtain⟨_,_,_,_,_,rfl,_⟩:=h;rfl
 obtain⟨p,s₀,u,v,a,rfl,pv,ok,ed,k⟩:=h;refine dj.ok (ae (cz 4 uS.nd (aH aI (by rfl) T.z_len LM (aa (cB (qv 0) Z) af fB))) (aj (bF (aN fV (qv 1) (qv 4) (aU _)) (aj (jv (bL ba (cB (qv 0) Z) (qv 1)) (aD de (qv 2) (qv 4)) gD (qv 3) xl fD)) (aj (jv (bL ba (cB (qv 0) Z) (qv 2)) (aD de (qv 1) (qv 4)) gD (qv 3) qy fD))))) ?_
 nofun
 obtain⟨dx,hi⟩:=pv.ins;obtain⟨xs,hx,al⟩:=pv.hi;have hlen:=al.len;refine⟨_,Z,p.a,_,_,_,_,Z,hi,T.cl_Pouring,T.n_Pouring_inside,Z,p.li,_,Z,.inr hx,?_⟩;refine⟨_,Z,_,Z,_,_,Z,Z,_,Z,?_⟩;by_cases c:u<s₀.ws.length
 ·refine cJ (by omega) ?_;have hv:s₀.ws.length≤v/\v<s₀.ws.length+24:=by
   rcases ed with⟨_,a,b⟩ | ⟨a,_,_⟩<;>omega
  have rl:=pv.rl;have olp:=ok.lp;have h1:u<p.rows.length:=by omega
  have h2:u<s₀.P.length:=by omega
  have e1:=J6 h1;have e2:=J6 h2;have r24:=ok.row _ (K6 h2);have g:=pv.row _ _ _ e1 e2;have ePf:s₀.pf u (v-s₀.ws.length)=(s₀.P[u]).getD (v-s₀.ws.length) 0:=by unfold Ps.pf;rw[au [] e2]
  refine⟨_,Z,p.a,_,_,_,_,Z,hi,T.cl_Pouring,T.n_Pouring_poured,Z,_,Z,p.lp,_,_,_,Z,Z,aO.of pv.hp,aP (by rw[Kt,e1];rfl),_,Z,_,Z,_,_,Z,Z,p.rows[u],_,v-s₀.ws.length,_,Z,(by show V.int _=V.int _;congr 1;omega),aO.of g,df (by omega),_,Z,_,_,Z,Z,p.rows[u],_,_,v-s₀.ws.length,Z,Z,g,(by rw[J7,show(v:Int)-(xs.length:Nat)=((v-s₀.ws.length:Nat):Int) by omega];exact ir (by omega)),?_⟩;rw[show(Tc V.int s₀.P[u]).set (v-s₀.ws.length) (V.int ((s₀.P[u]).getD (v-s₀.ws.length) 0+a))=((s₀.P[u]).set (v-s₀.ws.length) ((s₀.P[u]).getD (v-s₀.ws.length) 0+a)).map V.int from(Qv ..).symm];obtain⟨pw,ps⟩:=pv.setRow e1 ((s₀.P[u]).set (v-s₀.ws.length) ((s₀.P[u]).getD (v-s₀.ws.length) 0+a));refine k _ ps ?_;unfold Ps.mv jj;rw[if_pos c,au [] e2,ePf];exact pw
 ·refine cA (by omega) ?_;have hv:u<s₀.ws.length+24/\v<s₀.ws.length:=by
   rcases ed with⟨_,a,b⟩ | ⟨a,_,_⟩<;>omega
  have rl:=pv.rl;have olp:=ok.lp;have h1:v<p.rows.length:=by omega
  have h2:v<s₀.P.length:=by omega
  have e1:=J6 h1;have e2:=J6 h2;have r24:=ok.row _ (K6 h2);have g:=pv.row _ _ _ e1 e2;have ePf:s₀.pf v (u-s₀.ws.length)=(s₀.P[v]).getD (u-s₀.ws.length) 0:=by unfold Ps.pf;rw[au [] e2]
  refine⟨_,Z,p.a,_,_,_,_,Z,hi,T.cl_Pouring,T.n_Pouring_poured,Z,_,Z,p.lp,_,_,_,Z,Z,aO.of pv.hp,aP (by rw[Kt,e1];rfl),_,Z,_,Z,_,_,Z,Z,p.rows[v],_,u-s₀.ws.length,_,Z,(by show V.int _=V.int _;congr 1;omega),aO.of g,df (by omega),_,Z,_,_,Z,Z,p.rows[v],_,_,u-s₀.ws.length,Z,Z,g,(by rw[J7,show(u:Int)-(xs.length:Nat)=((u-s₀.ws.length:Nat):Int) by omega];exact ir (by omega)),?_⟩;rw[show(Tc V.int s₀.P[v]).set (u-s₀.ws.length) (V.int ((s₀.P[v]).getD (u-s₀.ws.length) 0-a))=((s₀.P[v]).set (u-s₀.ws.length) ((s₀.P[v]).getD (u-s₀.ws.length) 0-a)).map V.int from(Qv ..).symm];obtain⟨pw,ps⟩:=pv.setRow e1 ((s₀.P[v]).set (u-s₀.ws.length) ((s₀.P[v]).getD (u-s₀.ws.length) 0-a));refine k _ ps ?_;unfold Ps.mv jj;rw[if_neg c,au [] e2,ePf];exact pw
theorem EI(T:eS K mg t):bu P w K mg base dP 3 t.a_Q5 t.d_Q5 ["self","number"] (gZ K t.c_Pouring):=by
 refine T.F_Q5.ok AD (λvs H Q E h=>?_) (λcdv A outer s H vs Q E hr h=>?_)
 ·obtain⟨_,_,_,rfl,_⟩:=h;rfl
 obtain⟨p,s₀,n,rfl,pv,ok,hn,gd,a0,a200,p200,k⟩:=h;refine dj.ok (ae (cz 2 AD.nd (bL ay (cB (qv 0) Z) (qv 1))) (aj (aM (bc (N':=["part","work","number","self"]) (src:=[none,some 2,some 1,some 0]) Z (by exact(cm (bG ba (cB (qv 0) Z) (qv 1) (λ_ _=>Z)))) (λ_ _ _ _ _=>(by exact(by exact aA (i:=0) (by show KU (["part","work","number","self"]:List K1);decide +kernel) (by exact Z) (by first|exact KW Z|exact KR Z)))) (λ_ _ _ _ _=>ck) (λ_ _ _ _ _=>(by exact(by exact(gz (qp T) (by exact hr.mono (by decide)) (by exact Z) T.m_Q44 T.F_Q44.kp T.b_Q44 (by exact .nil) (by exact dW) (aa (by exact(bG (cI (K:=K) (by exact Z)) (by exact(qv 1)) ah (by exact λ_ _=>Z))) (aa (by exact(gz (wJ T) (by exact hr.mono (by decide)) (by exact Z) T.m_Q42 T.F_Q42.kp T.b_Q42 (by exact .nil) (by exact dW) (aa (by exact(qv 0)) (aa (by exact(bG (cL (K:=K) (by exact Z)) (by exact(io (K:=K) (by exact Z) (by exact(qv 3)) (by exact Z))) (by exact(qv 2)) (by exact λ_ _=>Z))) af aQ) ac))) af aK) aQ))))) (by exact⟨Z,Z,Z,Z,⟨Z,Z,Z,Z,⟨Z,Z,Z,Z,trivial⟩⟩⟩) Z (by decide +kernel) Z (by decide +kernel) (by exact aW Z ⟨Z,⟨Z,⟨Z,trivial⟩⟩⟩))))) ?_
 nofun
 obtain⟨dx,hi⟩:=pv.ins;obtain⟨xs,hx,al⟩:=pv.hi;have hlen:=al.len;obtain⟨xw,hxw⟩:∃xw,xs[n]?=some xw:=⟨_,J6 (by omega)⟩;obtain⟨w,hw,pw,am,rfl,hpw,ram⟩:=al.at hxw;have gw:=(gd w (Ke hw)).2.2.1;refine⟨_,Z,p.a,_,_,_,_,Z,hi,T.cl_Pouring,T.n_Pouring_inside,Z,_,Z,p.li,_,_,_,Z,Z,hx,aP hxw,?_⟩;have hpl:=pv.rl;have olp:=ok.lp;have ola:=ok.la;have h1:n<p.rows.length:=by omega
 have h2:n<s₀.P.length:=by omega
 have e1:=J6 h1;have e2:=J6 h2;have lr:=ok.row _ (K6 h2);have g3:=pv.row n _ _ e1 e2;have erow:(s₀.P[n]).map (λz:Int=>aJ w.2.2 (dk z (s₀.A.getD n 0)))=(J9 24).map (cD s₀ n):=by
  refine P9 (by rw[J7,J7,KB,lr]) λi i1 i2=>?_
  rw[J7] at i1;rw[Nb,Nb,Pm];unfold cD Ps.pf;rw[au cC hw,au [] e2,au 0 (J6 i1)]
 refine⟨_,Z,p.a,_,_,_,_,Z,hi,T.cl_Pouring,T.n_Pouring_poured,Z,_,Z,p.lp,_,_,_,Z,Z,aO.of pv.hp,aP (by rw[Kt,e1];rfl),p.rows[n],Z,⟨_,aO.of g3⟩,λD hD=>lP (K:=K) (P:=RV K) (ds:=s₀.P[n]) (f:=λz:Int=>aJ w.2.2 (dk z (s₀.A.getD n 0))) (λ_ _ _ _ t p=>p.mono t) hD (aO.of g3) (J7 _) (by omega) (λi y z H' hy hz s' R E kR=>?_) λH2 ys s2 hD2 al2=>k D ys H2 s2 hD hD2 (by rw[erow] at al2;exact al2)⟩;rw[Kt,hz] at hy
 cases hy
 have pvs:=pv.same s';have il:=(Kg.mp hz).1;have ez:s₀.pf n i=z:=by unfold Ps.pf;rw[au [] e2,au 0 hz]
 have z200:=p200 i (by omega);rw[ez] at z200;have wq:Wf 200 (dk z (s₀.A.getD n 0)):=wT a0 z200 a200;refine⟨eU.set Z,_,Z,pw,_,_,_,Z,Z,aT.same (K:=K) s' _ _ hpw,Z,_,Z,_,Z,p.a,_,_,_,_,Z,s' _ _ hi,T.cl_Pouring,T.n_Pouring_whole,Z,_,Z,p.lw,_,_,_,Z,Z,aO.of pvs.hw,aP (df (by omega)),_,_,Z,a0,aV a200 (by decide),λq hq=>?_⟩;have s3:=ai hq (.tup [.int (dk z (s₀.A.getD n 0)).1,.int (dk z (s₀.A.getD n 0)).2]);refine⟨_,_,w.2.2,_,20,200,Z,(ram.mono (aT.same s')).mono (aT.same s3),RV.of zqd,gw.wf (by decide) (by decide) (by decide),wq,by decide,λq2 hq2=>?_⟩;exact kR _ _ (s3.trans (ai hq2 _)) (RV.of zqd)
theorem EK(T:eS K mg t):bu P w K mg base dP 2 t.a_Q1 t.d_Q1 ["self","sources","turn"] (fW K t.c_Pouring):=by
 refine T.F_Q1.ok jW (λvs H Q E h=>?_) (λcdv A outer s H vs Q E hr h=>?_)
 ·obtain⟨_,_,_,_,_,_,rfl,_⟩:=h;rfl
 obtain⟨p,s₀,d,ns,sl,tn,rfl,pv,F,hd,S,nz,mem,o0,k⟩:=h;refine dj.ok (ae (cz 3 jW.nd (aH aI (by rfl) T.z_len LM (aa (cB (qv 0) Z) af fB))) (ae (cz 4 jW.nd (bO (aa (aD cf (qv 3) (qv 2)) af aR))) (ae (fE KD (aN zI (j4 (iu hr) (qv 1) (bG ba (qv 4) (lC iP ah) (λ_ _=>Z)) (λ_ _=>Z)) vS (aU _)) (aj (da (gQ Lr Ly Lz cF (qv 4) (aa (j4 (iu hr) (qv 1) (bG ba (qv 4) (lC iP ah) (λ_ _=>Z)) (λ_ _=>Z)) af aQ))))) (ae (cz 5 jW.nd (bO (aa (bL ba (cB (qv 0) Z) (qv 2)) (aa (bL ba (cB (qv 0) Z) (bL ba (qv 4) (lC iP ah))) af aQ) aQ))) (ae (bT KD Z (bW Z T.z_range (aa (aD de (aH aI (by rfl) T.z_len LM (aa (qv 4) af ac)) ah) af aR)) (aA (i:=6) jW.nd Z (by first|exact KW Z|exact KR Z)) (aj (da (gQ Lr Ly Lz cF (qv 5) (aa (fc (qv 0) T.cl_Pouring T.M_Pouring_most_between (EL T) (hr.mono (by decide)) T.b_Q0 .nil dW (aa (bL ba (qv 4) (aD cf (qv 6) ah)) (aa (bL ba (qv 4) (qv 6)) af aQ) aQ)) af aK))))) (ae (cz 7 jW.nd (aH (ud Z) (by rfl) T.z_min boot_min (aa (qv 5) af ac))) (ae (jv (cB (qv 0) Z) (qv 2) gD (qv 7) qy fD) (ae (jv (cB (qv 0) Z) (bL ba (qv 4) (lC iP ah)) gD (qv 7) qy fD) (aj (bT KD Z (bW Z T.z_range (aa (aD de (aH aI (by rfl) T.z_len LM (aa (qv 4) af ac)) ah) af aR)) (aA (i:=6) jW.nd Z (by first|exact KW Z|exact KR Z)) (aj (da (fc (qv 0) T.cl_Pouring T.M_Pouring_move (CH T) (hr.mono (by decide)) T.b_Q11 .nil dW (aa (bL ba (qv 4) (aD cf (qv 6) ah)) (aa (bL ba (qv 4) (qv 6)) (aa (qv 7) af ac) aQ) aQ)))))))))))))) ?_
 nofun
 have ok:=F.ok;obtain⟨dx,hi⟩:=pv.ins;obtain⟨xs,hx,al⟩:=pv.hi;have hlen:=al.len;refine⟨_,Z,p.a,_,_,_,_,Z,hi,T.cl_Pouring,T.n_Pouring_inside,Z,p.li,_,Z,.inr hx,?_⟩;refine⟨_,Z,_,Z,_,_,Z,Z,yA,λlw hlw=>?_⟩;have s1:=ai hlw (.lst [.int ((xs.length:Nat)+(tn:Nat))]);have e1:av H lw (.lst [.int ((xs.length:Nat)+(tn:Nat))]) lw=some (.lst [.int ((xs.length:Nat)+(tn:Nat))]):=zqd;generalize av H lw (.lst [.int ((xs.length:Nat)+(tn:Nat))])=H1 at s1 e1 ⊢;rw[hlen,show((s₀.ws.length:Nat):Int)+(tn:Nat)=((s₀.ws.length+tn:Nat):Int) by omega] at e1;have hrd:∀{H2:Hp},aC H H2->Rd H2 d (.dK (b8 sl)):=λz=>by
  rcases hd with h | ⟨o,h⟩
  ·exact .inl (z _ _ h)
  ·exact .inr ⟨o,z _ _ h⟩
 obtain⟨x0,hx0,ex0⟩:=Kc.mp mem;obtain⟨i0,hi0,rfl⟩:=Lj.mp hx0;have n20:=ok.n20;have sll:=mN S;have tn24:tn<24:=by have:=S.lt _ hx0;omega
 refine⟨λm σ H'=>∃way:List Nat,σ=[some (.ref p.a),some (.ref d),some (.int (tn:Nat)),some (.int (xs.length:Nat)),some (.ref lw),none,none,none]/\(∀b o,b≠lw->H1 b=some o->H' b=some o)/\H' lw=some (.lst (aF way))/\yz s₀ way/\0<way.length/\way.getD 0 0=s₀.ws.length+tn/\(∃o,sl[m]?=some (way.getD (way.length-1) 0,o))/\(∀x∈way,∃i o,m≤i/\sl[i]?=some (x,o)),⟨i0,[s₀.ws.length+tn],Z,λ_ _ _ e=>e,e1,?_,Nat.one_pos,Z,⟨sl[i0].2,?_⟩,λx hx=>⟨i0,sl[i0].2,Kb _,?_⟩⟩,?_⟩
 ·exact⟨(Lo.mpr ⟨(λz=>nomatch z),Nz⟩),λj hj=>absurd hj (by show ¬j+1<1;omega),λj hj=>by
   have:j=0:=by
    have:j<1:=hj;omega
   subst this;show s₀.ws.length+tn<_;omega⟩
 ·rw[J6 hi0];show some sl[i0]=some (s₀.ws.length+tn,_);rw[←ex0]
 ·rw[Ks.mp hx,J6 hi0,←ex0]
 rintro m σ H2 ⟨way,rfl,k2,e2,W2,l2,w0,⟨o2,lst2⟩,ix2⟩;have s2:aC H H2:=λb o e=>k2 b o (aB e hlw) (s1 _ _ e)
 have nl2:(aF way).length=way.length:=J7 _;have el:pD (aF way) (-1)=some (.int ((way.getD (way.length-1) 0:Nat):Int)):=zS l2;have wl:way.length≤s₀.ws.length+24:=fQ W2.nd λj hj=>by
  obtain⟨i,hi,rfl⟩:=Lj.mp hj;have:=W2.lt i hi;rw[au 0 (J6 hi)] at this;exact this
 refine⟨_,Z,_,Z,_,Z,lw,_,_,_,Z,Z,aO.of e2,el,d,oV o2,Z,.inl ⟨b8 sl,KN _,hrd s2,Z,(me S.nd lst2).symm⟩,Z,_,Z,?_⟩
 cases o2 with
 |some u=>
  rw[show decide (oV (some u)=V.non)=false from decide_eq_false (λz=>nomatch z)];refine hZ ?_;refine⟨_,λ_ _ z=>z,?_⟩;obtain⟨b,j,hj,oj,ej⟩:=S.src _ _ _ lst2;refine⟨_,Z,.inl ⟨Z,_,aO.of e2⟩,_,Z,_,Z,_,Z,lw,_,_,_,Z,Z,aO.of e2,el,d,oV (some u),Z,.inl ⟨b8 sl,KN _,hrd s2,Z,(me S.nd lst2).symm⟩,lw,_,_,Z,Z,e2,bf (by omega),?_⟩;have nu:u∉way:=λz=>by
   obtain⟨i,o,hi,ei⟩:=ix2 u z;have:=Bb S.nd ei ej;omega
  have W3:=W2.more l2 nu b (S.lt _ (Ke ej));have ll:(way++[u]).length-1=way.length:=by rw[Ko];rfl
  refine⟨j,hj,way++[u],Z,λb o nb e=>by rw[ak nb];exact k2 b o nb e,?_,W3,by rw[Ko];omega,by rw[gk l2];exact w0,⟨oj,by rw[ll,fq];exact ej⟩,λx hx=>?_⟩
  ·rw[zqd];unfold aF;rw[Ku];rfl
  ·rcases KG.mp hx with z|z
   ·obtain⟨i,o,hi,ei⟩:=ix2 x z;exact⟨i,o,by omega,ei⟩
   ·rw[Ks.mp z];exact⟨j,oj,Kb _,ej⟩
 |none=>
  refine cO ?_;have mla:=S.root _ (Ke lst2);obtain⟨la20,rla⟩:=nz _ mla;generalize ela:way.getD (way.length-1) 0=la at mla la20 rla el;have pv2:=pv.same s2;obtain⟨dx2,hi2⟩:=pv2.ins;have olo:=ok.lo;have olr:=ok.lr;refine⟨_,Z,p.a,_,_,_,_,Z,hi2,T.cl_Pouring,T.n_Pouring_room,Z,_,Z,p.lo,_,_,_,Z,Z,aO.of pv2.ho,aP (df (by omega)),?_⟩;refine⟨_,Z,p.a,_,_,_,_,Z,hi2,T.cl_Pouring,T.n_Pouring_rest,Z,_,Z,_,Z,lw,_,_,_,Z,Z,aO.of e2,el,p.lr,_,_,_,Z,Z,aO.of pv2.hr,aP (df (by omega)),gI,λlb hlb=>?_⟩;have s3:=ai hlb (.lst [.int (s₀.O.getD tn 0),.int (s₀.R.getD la 0)]);have e3:av H2 lb (.lst [.int (s₀.O.getD tn 0),.int (s₀.R.getD la 0)]) lb=some (.lst ((Ag s₀ way tn la 0).map V.int)):=zqd;have nbw:lb≠lw:=λz=>by rw[z,e2] at hlb;cases hlb
  generalize av H2 lb (.lst [.int (s₀.O.getD tn 0),.int (s₀.R.getD la 0)])=H3 at s3 e3 ⊢;have s03:=s2.trans s3;have w3:=s3 _ _ e2;have hH_lb:H lb=none:=by
   cases q:H lb with
   |none=>rfl
   |some o=>rw[s2 _ _ q] at hlb;cases hlb
  have nlw:lw∉p.l:=λz=>by
   rcases pv.kind z with⟨_,_,q⟩ | ⟨_,q⟩<;>rw[hlw] at q<;>cases q
  have nlb:lb∉p.l:=λz=>by
   rcases pv.kind z with⟨_,_,q⟩ | ⟨_,q⟩<;>rw[hH_lb] at q<;>cases q
  have at':∀{H':Hp} (j:Nat),j<way.length->H' lw=some (.lst (aF way))->(aF way)[j]?=some (.int ((way.getD j 0:Nat):Int)):=λj hj _=>by
   unfold aF;rw[Kt,J6 hj,au 0 (J6 hj)];rfl
  let Iv1:Nat->L2.St->Hp->Prop:=λi σ H'=>∃y6:Option V,σ=[some (.ref p.a),some (.ref d),some (.int (tn:Nat)),some (.int (xs.length:Nat)),some (.ref lw),some (.ref lb),y6,none]/\(∀b o,b≠lb->H3 b=some o->H' b=some o)/\H' lb=some (.lst ((Ag s₀ way tn la i).map V.int))
  refine⟨_,Z,lw,_,Z,.inl (aO.of w3),_,_,Z,Z,_,Z,by omega,by omega,cG (lo:=0) (n:=((((aF way).length:Nat):Int)-1).toNat) Iv1 ⟨none,Z,λ_ _ _ e=>e,e3⟩ ?_ ?_⟩
  ·rintro i σ H4 hin ⟨y6,rfl,k4,e4⟩;have s4:aC H H4:=λb o e=>k4 b o (aB e hH_lb) (s03 _ _ e)
   have pv4:=pv.same s4;obtain⟨dx4,hi4⟩:=pv4.ins;have w4:=k4 _ _ nbw.symm w3;have hi':i+1<way.length:=by omega
   rw[MM];refine⟨_,Z,.inl ⟨Z,_,aO.of e4⟩,_,Z,p.a,_,_,Z,hi4,Z,_,Z,_,Z,_,_,Z,Z,lw,_,_,_,Z,Z,aO.of w4,(by rw[show((i:Nat):Int)+1=((i+1:Nat):Int) by omega];exact aP (at' (i+1) hi' w4)),_,Z,_,Z,lw,_,_,_,Z,Z,aO.of w4,aP (at' i (by omega) w4),p,s₀,_,_,Z,pv4,ok,nI ok (W2.lt (i+1) hi') (W2.ed i hi'),lb,_,_,Z,Z,e4,bf (by unfold Ag;rw[J7,Ko,J7,KB];show 2+i≤1000;omega),?_⟩;refine⟨_,Z,λb o nb e=>by rw[ak nb];exact k4 b o nb e,?_⟩;rw[zqd,Af,Ku];rfl
  rintro σ H4 ⟨y6,rfl,k4,e4⟩;have s4:aC H H4:=λb o e=>k4 b o (aB e hH_lb) (s03 _ _ e)
  have pv4:=pv.same s4;have w4:=k4 _ _ nbw.symm w3;obtain⟨dx4,hi4⟩:=pv4.ins;have en:((((aF way).length:Nat):Int)-1).toNat=way.length-1:=by omega
  rw[en] at e4;refine⟨_,Z,lb,_,Z,aO.of e4,by unfold Ag;rw[Ko];show 0<2+_;omega,λa ha hle=>?_⟩;have ao:=hle _ (show s₀.O.getD tn 0∈Ag s₀ way tn la (way.length-1) from La _ (Kf ..));have ar:=hle _ (show s₀.R.getD la 0∈Ag s₀ way tn la (way.length-1) from La _ (Km _ (Kf ..)));have am:∀j,j+1<way.length->a≤wV s₀ (way.getD (j+1) 0) (way.getD j 0):=λj hj=>hle _ (Kw _ (Kc.mpr ⟨j,Kk.mpr (by omega),Z⟩))
  have a0:0<a:=by
   rcases KG.mp ha with z|z
   ·rcases Kn.mp z with z|z
    ·omega
    ·rw[Ks.mp z];exact rla
   ·obtain⟨j,hj,rfl⟩:=Kc.mp z;have hj':=Kk.mp hj;exact CO ok (W2.lt (j+1) (by omega)) (W2.ed j (by omega))
  refine⟨_,Z,p.a,_,_,_,_,Z,hi4,T.cl_Pouring,T.n_Pouring_room,Z,_,Z,p.lo,_,tn,_,Z,Z,aO.of pv4.ho,df (by omega),_,Z,_,_,Z,Z,p.lo,_,_,tn,Z,Z,pv4.ho,ir (by rw[J7];omega),?_⟩;rw[show(Tc V.int s₀.O).set tn (V.int (s₀.O.getD tn 0-a))=(s₀.O.set tn (s₀.O.getD tn 0-a)).map V.int from(Qv ..).symm];obtain⟨pv5,st5⟩:=pv4.setO (s₀.O.set tn (s₀.O.getD tn 0-a));have w5:=st5 _ _ nlw w4;generalize av H4 p.lo (.lst ((s₀.O.set tn (s₀.O.getD tn 0-a)).map V.int))=H5 at pv5 st5 w5 ⊢;obtain⟨dx5,hi5⟩:=pv5.ins;refine⟨_,Z,p.a,_,_,_,_,Z,hi5,T.cl_Pouring,T.n_Pouring_rest,Z,_,Z,_,Z,lw,_,_,_,Z,Z,aO.of w5,el,p.lr,_,la,_,Z,Z,aO.of pv5.hr,df (show la<s₀.R.length by omega),_,Z,_,_,Z,Z,p.lr,_,_,la,Z,Z,pv5.hr,ir (by rw[J7];show la<s₀.R.length;omega),?_⟩;rw[show(Tc V.int s₀.R).set la (V.int (s₀.R.getD la 0-a))=(s₀.R.set la (s₀.R.getD la 0-a)).map V.int from(Qv ..).symm];obtain⟨pv6,st6⟩:=pv5.setR (s₀.R.set la (s₀.R.getD la 0-a));have w6:=st6 _ _ nlw w5;generalize av H5 p.lr (.lst ((s₀.R.set la (s₀.R.getD la 0-a)).map V.int))=H6 at pv6 st6 w6 ⊢;have pv6':fX K t.c_Pouring H6 p (s₀.less tn la a):=pv6;have st06:kI p H H6:=((kI.of s4).trans st5).trans st6;have W6:yz (s₀.less tn la a) way:=⟨W2.nd,W2.ed,W2.lt⟩;clear pv6;let Iv2:Nat->L2.St->Hp->Prop:=λi σ H'=>∃y6:Option V,σ=[some (.ref p.a),some (.ref d),some (.int (tn:Nat)),some (.int (xs.length:Nat)),some (.ref lw),some (.ref lb),y6,some (.int a)]/\kI p H6 H'/\fX K t.c_Pouring H' p (nN (s₀.less tn la a) way a i)
  refine⟨_,Z,lw,_,Z,.inl (aO.of w6),_,_,Z,Z,_,Z,by omega,by omega,cG (lo:=0) (n:=((((aF way).length:Nat):Int)-1).toNat) Iv2 ⟨_,Z,λ_ _ _ e=>e,pv6'⟩ ?_ ?_⟩
  ·rintro i σ H7 hin ⟨y7,rfl,k7,pv7⟩;obtain⟨dx7,hi7⟩:=pv7.ins;have w7:=k7 _ _ nlw w6;have hi':i+1<way.length:=by omega
   have m7:=Gr (rN ok tn la a) W6 a i (by omega);rw[MM];refine⟨_,Z,p.a,_,_,Z,hi7,Z,_,Z,_,Z,_,_,Z,Z,lw,_,_,_,Z,Z,aO.of w7,(by rw[show((i:Nat):Int)+1=((i+1:Nat):Int) by omega];exact aP (at' (i+1) hi' w7)),_,Z,_,Z,lw,_,_,_,Z,Z,aO.of w7,aP (at' i (by omega) w7),_,Z,p,_,_,_,a,Z,pv7,m7.ok,(by
    have q:=nI ok (W2.lt (i+1) hi') (W2.ed i hi');unfold Dw at q ⊢;rw[m7.sm.ws];exact q),λH8 st8 pv8=>?_⟩
   exact⟨_,Z,k7.trans st8,pv8⟩
  ·rintro σ H7 ⟨y7,rfl,k7,pv7⟩;rw[en] at pv7;obtain⟨f1,f2,f3⟩:=Fc F W2 l2 tn24 w0 la20 ela a0 ao ar am;exact k _ H7 (st06.trans k7) pv7 f1 f2 (zQ F la20 a0 ar f3 f2.ws)
theorem CG(T:eS K mg t):bu P w K mg base dP 3 t.a_Q12 t.d_Q12 ["self"] (jg K t.c_Pouring):=by
 refine T.F_Q12.ok qf (λvs H Q E h=>?_) (λcdv A outer s H vs Q E hr h=>?_)
 ·obtain⟨_,_,rfl,_⟩:=h;rfl
 obtain⟨p,s₀,rfl,pv,F,k⟩:=h;refine dj.ok (aj (fE KD (cH c8) (ae (cz 1 qf.nd (fc (qv 0) T.cl_Pouring T.M_Pouring_reached (EJ T) (hr.mono (by decide)) T.b_Q4 .nil dW (aa (bc (N':=["number","rest"]) (src:=[none,none]) Z (by exact(oz Z T.z_enumerate (aa (cB (qv 0) Z) af fB))) (λ_ _ _ _ _=>(by exact(by exact jy (K:=K) (n:=2) (by exact Z) (by exact Z) (by exact bB (by exact aA (i:=0) (by show KU (["number","rest"]:List K1);decide +kernel) (by exact Z) (by first|exact KW Z|exact KR Z)) (by exact bB (by exact aA (i:=1) (by show KU (["number","rest"]:List K1);decide +kernel) (by exact Z) (by first|exact KW Z|exact KR Z)) dY))))) (λ_ _ _ _ _=>(cX (aN ip (by exact(qv 1)) ah (aU _)))) (λ_ _ _ _ _=>(by exact(by exact(qv 0)))) (by exact trivial) Z (by decide +kernel) Z (by decide +kernel) (by exact aW Z trivial)) af cW))) (ae (mV (i:=2) (N':=["turn","self"]) (src:=[none,some 0]) qf.nd Z (by first|exact KW Z|exact KR Z) Z (by exact(cm (fc (qv 0) T.cl_Pouring T.M_Pouring_turns_of (AM T) (hr.mono (by decide)) T.b_Q3 .nil dW (aa (qv 1) af ac)))) (λ_ _ _ _ _=>(by exact(by exact aA (i:=0) (by show KU (["turn","self"]:List K1);decide +kernel) (by exact Z) (by first|exact KW Z|exact KR Z)))) (λ_ _ _ _ _=>(cX (aN ip (by exact(bG (cL (K:=K) (by exact Z)) (by exact(io (K:=K) (by exact Z) (by exact(qv 1)) (by exact Z))) (by exact(qv 0)) (by exact λ_ _=>Z))) ah (aU _)))) (λ_ _ _ _ _=>(by exact(by exact(qv 0)))) (by exact⟨Z,Z,Z,Z,trivial⟩) Z (by decide +kernel) Z (by decide +kernel) (by exact aW Z ⟨Z,trivial⟩)) (ae (bF (aN oG (aH aI (by rfl) T.z_len LM (aa (qv 2) af ac)) ah (aU _)) (aj (aM (qv 1))) aX) (aj (da (fc (qv 0) T.cl_Pouring T.M_Pouring_pour_along (EK T) (hr.mono (by decide)) T.b_Q1 .nil dW (aa (qv 1) (aa (bL ba (qv 2) ah) af aQ) ac))))))))) ?_
 nofun
 refine⟨λm σ H'=>∃(s:Ps) (x1 x2:Option V),σ=[some (.ref p.a),x1,x2]/\kI p H H'/\fX K t.c_Pouring H' p s/\yk s/\qS s₀ s/\m=s.mu,⟨s₀.mu,s₀,none,none,Z,λ_ _ _ e=>e,pv,F,.refl _,Z⟩,?_⟩;rintro m σ H1 ⟨s₁,x1,x2,rfl,st1,pv1,F1,sb1,rfl⟩;refine⟨_,Z,hZ ⟨_,λ_ _ z=>z,?_⟩⟩;have ok:=F1.ok;have n20:=ok.n20;have olr:=ok.lr;have olo:=ok.lo;obtain⟨dx,hi⟩:=pv1.ins;have lm:(s₁.R.map V.int).length=s₁.ws.length:=by rw[J7,olr]
 refine⟨_,Z,p.a,_,_,Z,hi,Z,_,Z,p.a,_,_,_,_,Z,hi,T.cl_Pouring,T.n_Pouring_rest,Z,p.lr,Z,⟨_,aO.of pv1.hr⟩,λD hD=>bY (qW (aO.of pv1.hr)) (λi=>decide (0<s₁.R.getD i 0)) (λi=>V.int (i:Nat)) hD (by omega) (λi x H' hi' s' hx' R E kR kE=>?_) λH4 s4 h4=>?_⟩
 ·obtain⟨pe,y,rfl,hy,hpe⟩:=hx';rw[df (by omega)] at hy
  cases hy
  refine⟨pe,_,Z,bH.of hpe,Z,_,_,Z,_,_,Z,Z,(eU.set Z).set' Z,_,Z,_,_,Z,Z,_,Z,?_⟩;by_cases c:0<s₁.R.getD i 0
  ·exact cJ (by omega) ⟨_,Z,kR (decide_eq_true c) _ (aC.refl _)⟩
  ·exact cA (by omega) (kE (decide_eq_false c) _ (aC.refl _))
 rw[lm] at h4;have h4':H4 D=some (.lst (aF (DC s₁))):=h4;refine⟨p,s₁,D,DC s₁,Z,pv1.same s4,ok,aO.of h4',OP.filter _,λv hv=>(iq.mp hv).1,λd sl H5 s5 hd5 S C e5=>?_⟩;have s15:=s4.trans s5;have pv5:=pv1.same s15;obtain⟨dx5,hi5⟩:=pv5.ins;have sll:=mN S;refine⟨_,Z,p.a,_,_,Z,hi5,Z,_,Z,p,s₁,d,sl,Z,pv5,ok,.inl e5,by omega,λl6 ob H6 k6 e6 _ hl6 h6=>?_⟩;have h1d:H1 d=none:=by
  cases q:H1 d with
  |none=>rfl
  |some o=>rw[s4 _ _ q] at hd5;cases hd5
 have s16:aC H1 H6:=λb o e=>k6 b o (λz=>by rw[z,h1d] at e;cases e) (s15 _ _ e)
 have pv6:=pv1.same s16;obtain⟨dx6,hi6⟩:=pv6.ins;have tl:(gN s₁.ws.length sl).length≤60:=by
  unfold gN;rw[J7];refine K5 (Lm _ _) ?_;rw[KB];omega
 have nl:(aF (gN s₁.ws.length sl)).length=(gN s₁.ws.length sl).length:=J7 _;refine⟨l6,Z,⟨_,aO.of h6⟩,λD7 hD7=>bY (ic (aO.of h6)) (λi=>decide (0<s₁.O.getD ((gN s₁.ws.length sl).getD i 0) 0)) (λi=>V.int (((gN s₁.ws.length sl).getD i 0:Nat):Int)) hD7 (by omega) (λi x H' hi' s' hx' R E kR kE=>?_) λH8 s8 h8=>?_⟩
 ·obtain⟨tt,htt,rfl⟩:=dy hx';have tlt:=DR S (Ke htt);rw[au 0 htt] at kR kE;refine⟨eU.set Z,_,Z,p.a,_,_,_,_,Z,s' _ _ hi6,T.cl_Pouring,T.n_Pouring_room,Z,_,Z,p.lo,_,_,_,Z,Z,aO.of (s' _ _ pv6.ho),aP (df (by omega)),_,_,Z,Z,_,Z,?_⟩;by_cases c:0<s₁.O.getD tt 0
  ·exact cJ (by omega) ⟨_,Z,kR (decide_eq_true c) _ (aC.refl _)⟩
  ·exact cA (by omega) (kE (decide_eq_false c) _ (aC.refl _))
 rw[nl] at h8;have s18:=s16.trans s8;have pv8:=pv1.same s18;obtain⟨dx8,hi8⟩:=pv8.ins;have e8:=s8 _ _ e6;refine⟨_,Z,D7,_,Z,.inl (aO.of h8),Z,_,Z,?_⟩
 cases en:((J9 (gN s₁.ws.length sl).length).filter λi=>decide (0<s₁.O.getD ((gN s₁.ws.length sl).getD i 0) 0)) with
 |nil=>
  refine cJ Z ?_;have no:∀t∈gN s₁.ws.length sl,¬0<s₁.O.getD t 0:=λt ht z=>by
   obtain⟨i,hi,rfl⟩:=Lj.mp ht;have m:i∈((J9 (gN s₁.ws.length sl).length).filter λi=>decide (0<s₁.O.getD ((gN s₁.ws.length sl).getD i 0) 0)):=Kl.mpr ⟨Kk.mpr hi,decide_eq_true (by rw[au 0 (J6 hi)];exact z)⟩;rw[en] at m
   cases m
  exact⟨_,Z,k s₁ sl d H8 (st1.trans (kI.of s18)) pv8 sb1 (zn F1 S C no) ⟨ob,e8⟩⟩
 |cons i0 r=>
  refine cA (λz=>by injection z with z;rw[J7,Lb] at z;omega) ?_;rw[en] at h8;have m:i0∈((J9 (gN s₁.ws.length sl).length).filter λi=>decide (0<s₁.O.getD ((gN s₁.ws.length sl).getD i 0) 0)):=by rw[en];exact Kf
  obtain⟨m1,m2⟩:=Kl.mp m;have il:=Kk.mp m1;have o2:=of_decide_eq_true m2;have tm:(gN s₁.ws.length sl).getD i0 0∈gN s₁.ws.length sl:=by rw[au 0 (J6 il)];exact K6 il
  refine⟨_,Z,p.a,_,_,Z,hi8,Z,_,Z,_,Z,D7,_,_,_,Z,Z,aO.of h8,aP (j:=0) (by rw[KH];rfl),p,s₁,d,DC s₁,sl,_,Z,pv8,F1,.inr ⟨ob,e8⟩,S,λv hv=>iq.mp hv,ke.mp tm,o2,λs' H9 st9 pv9 F9 sb9 mu9=>?_⟩;exact⟨s'.mu,mu9,s',_,_,Z,(st1.trans (kI.of s18)).trans st9,pv9,F9,sb1.trans sb9,Z⟩
theorem Cy(T:eS K mg t):bu P w K mg base dP 5 t.a_Q20 t.d_Q20 ["works","hands","top"] (mG K):=by
 refine T.F_Q20.ok qd (λvs H Q E h=>?_) (λcdv A outer s H vs Q E hr h=>?_)
 ·obtain⟨_,_,_,_,_,_,rfl,_⟩:=h;rfl
 obtain⟨v,u,h₀,ws,tp,D₀,rfl,wv,g,h1,h20,rv,w60,t0,d0,d60,d84,td,kM,kF⟩:=h;refine dj.ok (ae (cz 3 qd.nd (yU T.K_Pouring (CI T) (hr.mono (by decide)) Z T.m_Pouring T.b_Q10 .nil dW (aa (qv 0) (aa (aD jA (bO (aa (qv 1) af ac)) (dt (v:=.int (24)) Z T.m_TURNS ⟨_,Z⟩)) (aa (qv 2) af ac) aR) ac))) (ae (cz 4 qd.nd (vT (qv 3) T.cl_Pouring T.M_Pouring_pour (CG T) (hr.mono (by decide)) T.b_Q12 .nil dW)) (ae (bF (aN ip (aH uf (by rfl) T.z_len LM (aa (qv 4) af ac)) ah (aU _)) (aj (aM (bv (aa (dt (v:=.str "much") Z T.m_MUCH ⟨_,Z⟩) (aa (cE cV (by rfl) T.z_tuple NJ (aa (aH pk (by rfl) T.z_sorted SD (aa (fc (qv 3) T.cl_Pouring T.M_Pouring_turns_of (AM T) (hr.mono (by decide)) T.b_Q3 .nil dW (aa (qv 4) af ac)) af aK)) af aK)) af aK) ac)))) aX) (aj (aM (bv (aa (dt (v:=.str "fits") Z T.m_FITS ⟨_,Z⟩) (aa (cQ (Cn T) hr T.m_Q38 T.F_Q38.kp T.b_Q38 (aa (bc (N':=["number","pouring"]) (src:=[none,some 3]) Z (by exact(bW Z T.z_range (aa (aH aI (by rfl) T.z_len LM (aa (qv 0) af ac)) af aK))) (λ_ _ _ _ _=>(by exact(by exact aA (i:=0) (by show KU (["number","pouring"]:List K1);decide +kernel) (by exact Z) (by first|exact KW Z|exact KR Z)))) (λ_ _ _ _ _=>ck) (λ_ _ _ _ _=>(by exact(by exact(fc (by exact(qv 1)) T.cl_Pouring T.M_Pouring_amounts (EI T) (by exact hr.mono (by decide)) T.b_Q5 (by exact .nil) (by exact dW) (aa (by exact(qv 0)) af ac))))) (by exact⟨Z,Z,Z,Z,trivial⟩) Z (by decide +kernel) Z (by decide +kernel) (by exact aW Z ⟨Z,trivial⟩)) af cW)) af aK) ac))))))) ?_
 nofun
 obtain⟨pw,xs,rfl,hS,al⟩:=id wv;have hlen:=al.len;have l6:=g.len;refine⟨_,Z,_,Z,yA,λl4 hl4=>?_⟩;have s4:=ai hl4 (.lst [.int (h₀:Nat)]);refine⟨l4,_,24,Z,Z,zqd,by decide,λlf hlf=>?_⟩;have s5:=ai hlf (.lst (Ki 24 (V.int (h₀:Nat))));have f5:av (av H l4 (.lst [.int (h₀:Nat)])) lf (.lst (Ki 24 (V.int (h₀:Nat)))) lf=some (.lst (aF (Ki 24 h₀))):=by rw[zqd];unfold aF;rw[Rz]
 have s02:=s4.trans s5;generalize av (av H l4 (.lst [.int (h₀:Nat)])) lf (.lst (Ki 24 (V.int (h₀:Nat))))=H2 at f5 s02 ⊢;refine⟨_,Z,λx dx hx hdx ndx=>?_⟩;have sm3:aC H2 (av (av H2 dx (.own x)) x (.ins t.c_Pouring dx [])):=(ai hdx _).trans (ai (by rw[ak ndx.symm];exact hx) _);have x3':av (av H2 dx (.own x)) x (.ins t.c_Pouring dx []) x=some (.ins t.c_Pouring dx []):=zqd;generalize av (av H2 dx (.own x)) x (.ins t.c_Pouring dx [])=H3 at sm3 x3' ⊢;have s03:=s02.trans sm3;have nbx:lf≠x:=λz=>by rw[z,hx] at f5;cases f5
 have f24:(Ki 24 h₀).length=24:=LW;refine⟨x,dx,pw,lf,u,xs,ws,Ki 24 h₀,tp,D₀,Z,x3',aT.same (K:=K) s03 _ _ hS,al.mono (λ_ _ z=>z.mono (aT.same s03)),g,nbx,aO.of (sm3 _ _ f5),f24,λf hf=>by rw[(Os.mp hf).2];exact K9 h20 (by decide),rv.mono (aT.same s03),w60.pos,t0,w60.top,d0,d60,d84,td,λp B H5 k5 pa pli fresh B0 Bd rB wB pv5=>⟨Z,?_⟩⟩;have S25:aC H2 H5:=λc o e=>k5 c o (λz=>by rw[z,hx] at e;cases e) (sm3 _ _ e)
 have fr2:∀q∈p.l,H2 q=none:=λq hq=>by
  by_cases z:q=x
  ·rw[z];exact hx
  ·exact none_of (λo e=>sm3 _ _ e) (fresh q hq z)
 clear k5;obtain⟨F5,L5⟩:=Er g f24 B0 w60.pos rB t0 wB;obtain⟨dx5,hi5⟩:=pv5.ins;rw[←pa];refine⟨_,Z,p.a,_,_,Z,hi5,Z,p,_,Z,pv5,F5,λs6 sl d H6 st6 pv6 sb6 E6 rd6=>?_⟩;have ew:s6.ws=ws:=sb6.ws;have ef:s6.fr=Ki 24 h₀:=sb6.fr;have S26:aC H2 H6:=λc o e=>st6 c o (λm=>by rw[fr2 c m] at e;cases e) (S25 c o e)
 have s06:=s02.trans S26;have L6:Ds s6 tp B:=⟨B0,by rw[sb6.M];exact L5.M,λi hi=>by rw[sb6.A,sb6.ws];rw[sb6.ws] at hi;exact L5.A i hi⟩;have X:Hf ws h₀ tp D₀ s6 sl B:=⟨E6,L6,ew,ef,Bd,g⟩;have ok6:=E6.F.ok;have swl:s6.ws.length=ws.length:=by rw[ew]
 have bA:∀i,i<ws.length->(s6.A.getD i 0).natAbs<2^200:=λi hi=>by
  rw[sb6.A];show((ws.map λw=>dQ B w.2.2).getD i 0).natAbs<_;rw[v3 hi];have gg:=g.gd _ (eZ hi);exact AN B0 Bd d0 d60 gg.2.2.1.pos (gg.2.2.1.wf (n:=60) (by decide) (by decide) (by decide)).top
 have bM:s6.M.natAbs<2^200:=by
  rw[sb6.M];exact AN B0 Bd d0 d60 w60.pos w60.top
 clear F5 L5 S25 fr2 fresh st6 hi5 pv5;obtain⟨ob6,d6⟩:=rd6;refine⟨_,Z,d,b8 sl,Z,.inr ⟨ob6,d6⟩,_,_,Z,Z,_,Z,?_⟩;obtain⟨dx6,hi6⟩:=pv6.ins;have nds:=E6.nd;have klt:∀x∈sl,x.1<s6.ws.length+24:=λx hx=>((E6.key x.1).mp (Kc.mpr ⟨x,hx,Z⟩)).node
 have sll:sl.length≤60:=by
  have:=fQ (n:=s6.ws.length+24) nds λj hj=>by
   obtain⟨x,hx,rfl⟩:=Kc.mp hj;exact klt x hx
  rw[J7] at this;omega
 by_cases c:sl=[]
 ·refine cA (by rw[c];show ¬(0:Int)<(([]:List (cv×V)).length:Nat);decide) ?_;refine⟨_,Z,pw,_,Z,.inr (aT.same (K:=K) s06 _ _ hS),ws.length,(by rw[hlen]),by omega,by omega,λDL hDL=>kA (J:=Ar 0 ((ws.length:Nat):Int).toNat) (n:=ws.length) (λi ys H'=>H' DL=some (.lst ys)/\aC H6 H'/\cK (λv rs=>∃l zs,v=.ref l/\l≠DL/\H' l=some (.lst zs)/\cK (RV K H') zs rs) ys ((J9 i).map λi=>(J9 24).map (cD s6 i))) ⟨zqd,ai hDL _,.nil⟩ (λi ys H' hi _=>by show i<_;omega) (λys H' ⟨e7,s7,al7⟩=>⟨by show _≤_;omega,?_⟩) ?_⟩
  ·refine⟨DL,ys,(J9 ws.length).map λi=>(J9 24).map (cD s6 i),Z,aO.of e7,al7.mono (λ_ _ ⟨l,zs,e,_,q,a⟩=>⟨l,zs,e,q,a⟩),by rw[J7,KB];omega,(λrs hrs=>by
    obtain⟨i,_,rfl⟩:=Kc.mp hrs;rw[J7,KB]),λv8 H8 s8 pl8=>?_⟩
   rw[←swl,zf] at pl8;refine⟨gI,λq hq=>?_⟩;have s9:=ai hq (.tup [.str "fits",v8]);obtain⟨p8,x8,rfl,hp8,a8⟩:=pl8;exact kF s6 sl B q _ _ (((s06.trans s7).trans s8).trans s9) X c (bH.of zqd) ⟨p8,x8,Z,aT.same (K:=K) s9 _ _ hp8,a8.mono λ_ _ z=>z.mono (aT.same s9)⟩
  ·rintro i ys H7 y H8 hi ⟨e7,s7,al7⟩ ⟨rfl,rfl⟩ R E kR kE;rw[MM];have pv7:=pv6.same s7;obtain⟨dx7,hi7⟩:=pv7.ins;refine⟨eU.set Z,?_⟩;refine⟨_,Z,p.a,_,_,Z,hi7,Z,_,Z,p,s6,i,Z,pv7,ok6,by omega,(by rw[ew];exact g.gd),E6.F.am i (by omega),bA i (by omega),λt ht=>?_,λl zs H9 s9 hl9 e9 al9=>?_⟩
   ·have f1:0≤s6.pf i t:=E6.F.fl.lo i t (show i<s6.ws.length by omega) ht;have f2:s6.pf i t≤s6.M:=E6.F.fl.hi i t (show i<s6.ws.length by omega) ht;omega
   have d9:=s9 _ _ e7;have nl:l≠DL:=λz=>by rw[z,e7] at hl9;cases hl9
   have yl:=al7.len;rw[J7,KB] at yl;have tu:=aT.up (K:=K) d9 (ys++[.ref l]);refine kR (.ref l) H9 d9 (bf (by omega)) ⟨zqd,λb o e=>by rw[ak (aB e hDL)];exact s9 _ _ (s7 _ _ e),?_⟩;rw[show J9 (i+1)=J9 i++[i] from LU,Ku];refine(al7.mono λ_ _ ⟨l',zs',e,n,q,a⟩=>⟨l',zs',e,n,by rw[ak n];exact s9 _ _ q,a.mono λ_ _ z=>(z.mono (aT.same s9)).mono tu⟩).snoc ⟨l,zs,Z,nl,by rw[ak nl];exact e9,al9.mono λ_ _ z=>z.mono tu⟩
 ·refine cJ (by show(0:Int)<((b8 sl).length:Nat);unfold b8;rw[J7];have:=Mv.mpr c;omega) ?_;refine⟨_,Z,p.a,_,_,Z,hi6,Z,_,Z,p,s6,d,sl,Z,pv6,ok6,.inr ⟨ob6,d6⟩,sll,λl ob H7 k7 e7 eo hl7 h7=>?_⟩;have eob:=eo _ d6;subst eob;have S67:aC H6 H7:=λb o e=>by
   by_cases z:b=d
   ·subst z;rw[d6] at e
    cases e
    exact e7
   ·exact k7 b o z e
  have s07:=s06.trans S67;have tlt:∀t∈gN s6.ws.length sl,t<24:=λt ht=>by
   obtain⟨x,hx,ex⟩:=Kc.mp (ke.mp ht);have:=klt x hx;omega
  have tl:=fQ (As (n:=s6.ws.length) nds) tlt;rw[gh] at h7;refine⟨l,_,Z,.inl (aO.of h7),by rw[J7];omega,λl8 ms pm st hl8=>?_⟩;have s8:=ai hl8 (.lst (ms.map V.int));refine⟨l8,_,Z,.inl ⟨aO.of zqd,λlt hlt=>?_⟩⟩;have s9:=ai hlt (.tup (ms.map V.int));have e9:av (av H7 l8 (.lst (ms.map V.int))) lt (.tup (ms.map V.int)) lt=some (.tup (aF (gj s6 sl))):=by
   rw[zqd,A7 (As nds) NG (λt ht=>Kk.mpr (tlt t ht)) pm st];rfl
  have s79:=s8.trans s9;generalize av (av H7 l8 (.lst (ms.map V.int))) lt (.tup (ms.map V.int))=H9 at s79 e9 ⊢;refine⟨gI,λq hq=>?_⟩;have s10:=ai hq (.tup [.str "much",.ref lt]);exact kM s6 sl B q lt _ ((s07.trans s79).trans s10) X c (bH.of zqd) (bH.of (s10 _ _ e9))
theorem Ct(T:eS K mg t):bu P w K mg base dP 6 t.a_Q26 t.d_Q26 ["_law_works_here","_law_hands","_law_top","_law_swift"] (mB K):=by
 refine T.F_Q26.ok qc (λvs H Q E h=>?_) (λcdv A outer s H vs Q E hr h=>?_)
 ·obtain⟨_,_,_,_,_,_,rfl,_⟩:=h;rfl
 obtain⟨v,u,sv,ws,hn,tp,rfl,wv,g,h1,h9,ru,ti,⟨rs,ok,rsv,wsw⟩,k⟩:=h;refine dj.ok (ae (bT KD Z (bW Z T.z_range (aa ah af aG)) (aA (i:=4) qc.nd Z (by first|exact KW Z|exact KR Z)) (ae (cz 5 qc.nd (cQ (Cy T) hr T.m_Q20 T.F_Q20.kp T.b_Q20 (aa (qv 0) (aa (qv 1) (aa (qv 2) af ac) ac) ac))) (ae (bF (gP (ik (cZ (cH (aH dq (by rfl) T.z_isinstance Nk (aa (qv 5) (aa (fO (v:=V.ty "tuple") Z T.z_tuple NJ Z) af ac) ac)))) (ge (aN oF (aH aI (by rfl) T.z_len LM (aa (qv 5) af ac)) ah (aU _))))) (aj (aM c8)) aX) (aj (bF (cZ (cH (cQ (ka T) hr T.m_Q15 T.F_Q15.kp T.b_Q15 (aa (qv 2) (aa (qv 3) af ac) ac)))) (aj (bF (gP (ik (aN oF (bL ay (qv 5) ah) vQ (aU _)) (ge (cZ (cH (cQ (Co T) hr T.m_Q36 T.F_Q36.kp T.b_Q36 (aa (qv 0) (aa (qv 1) (aa (qv 2) (aa (bL ay (qv 5) ah) af aQ) ac) ac) ac))))))) (aj (aM c8)) aX)) (aj (bF (gP (ik (aN oF (bL ay (qv 5) ah) vQ (aU _)) (ge (cZ (cH (cQ (Cp T) hr T.m_Q35 T.F_Q35.kp T.b_Q35 (aa (qv 0) (aa (qv 1) (aa (qv 2) (aa (bL ay (qv 5) ah) af aQ) ac) ac) ac))))))) (aj (aM c8)) (aj (bF (aN zJ (cQ (Cz T) hr T.m_Q19 T.F_Q19.kp T.b_Q19 (aa (qv 0) (aa (qv 1) (aa (qv 2) (aa (bL ay (qv 5) ah) af aQ) ac) ac) ac)) c8 (aU _)) (aj (aM c8)) aX))))))))) (aj (aM c8))) ?_
 nofun
 obtain⟨D₀,d0,d60,d84,td,dd⟩:=ti.ex;have tq:=ti.tq;have t0v:0≤val tp:=(pM tq.pos).mpr (Lw ti.t0);have Gb:0<(rs.foldl fF (0,1)).2:=wsw.pos;let Iv:Nat->L2.St->Hp->Prop:=λi σ H'=>∃x4 x5:Option V,σ=[some v,some (.int (hn:Nat)),some u,some sv,x4,x5]/\aC H H'
 refine⟨2,Z,by decide,by decide,cG (lo:=0) (n:=2) Iv ⟨none,none,Z,aC.refl _⟩ ?_ ?_⟩
 ·rintro i σ H1 hi ⟨x4,x5,rfl,s1⟩;have t1:=aT.same (K:=K) s1;refine⟨_,Z,_,Z,_,Z,v,u,hn,ws,tp,D₀,Z,wv.mono t1,g,h1,by omega,ru.mono t1,ti.w60,ti.t0,d0,d60,d84,td,λs sl B q pt H2 s2 X ne hq hpt=>?_,λs sl B q x H2 s2 X e0 hq pl=>?_⟩
  ·have s02:=s1.trans s2;have t02:=aT.same (K:=K) s02;have up:cy tp (rs.foldl fF (0,1))=true:=by
    refine(fZ tq.pos Gb).mpr ?_;apply KC;intro z;exact ne ((oU X.E X.L X.ef (by rw[X.ew];exact ok) t0v).mpr (Oq.mp z))
   have mw:=uu X tq h9 ne;have ls24:(gj s sl).length≤24:=by
    unfold gj;have:=Lm (λt=>decide (t∈gN s.ws.length sl)) (J9 24);rw[KB] at this;exact this
   have lsl:∀n∈gj s sl,n<24:=λn hn=>Kk.mp (Kl.mp hn).1
   have lss:(gj s sl).Pairwise (· < ·):=NG.filter _;generalize gj s sl=ls at hpt mw ls24 lsl lss;have dF:bS K H2 (.ref q) (.tuple [.str (ND "much"),zP ls]):=.tup hq (.cons (.str _) (.cons (kx hpt) .nil));have l6:=g.len;have mua:DH K H2 v u pt ws hn tp ls:=⟨wv.mono t02,λw hw=>.of (g.gd w hw),by omega,h9,ru.mono t02,tq,hpt,lss,lsl,ls24⟩;refine⟨_,Z,.ref q,_,"tuple",true,Z,dF,Z,_,Z,cO ?_⟩;refine⟨_,Z,q,_,Z,.inr hq,Z,_,Z,jb Z ?_⟩;refine⟨_,Z,_,Z,u,sv,tp,_,240,60,Z,ru.mono t02,rsv.mono t02,di tq (by decide),wsw,by decide,_,Z,?_⟩;rw[up];refine cO ?_;refine⟨_,Z,q,_,_,_,Z,Z,hq,Z,Z,_,Z,jb Z ?_⟩;refine⟨_,Z,_,Z,_,Z,_,Z,q,_,_,_,Z,Z,hq,Z,v,u,pt,ws,hn,tp,ls,Z,mua,mw,λH3 s3=>⟨_,Z,cO ?_⟩⟩;have hq3:=aT.same (K:=K) s3 _ _ hq;refine⟨_,Z,_,Z,_,Z,_,Z,q,_,_,_,Z,Z,hq3,Z,v,u,pt,ws,hn,tp,ls,Z,mua.same s3,mw,λH4 s4=>⟨_,_,Z,Z,_,Z,jb Z ?_⟩⟩;exact⟨_,_,Z,(s02.trans s3).trans s4⟩
  ·have s02:=s1.trans s2;have t02:=aT.same (K:=K) s02;have up:cy tp (rs.foldl fF (0,1))=false:=(fL tq.pos Gb).mpr ((oU X.E X.L X.ef (by rw[X.ew];exact ok) t0v).mp e0);have po:=Eu X tq dd e0;have dF:bS K H2 (.ref q) (.tuple [.str (ND "fits"),GD (yx s)]):=.tup hq (.cons (.str _) (.cons pl.deep .nil));have le:∀q∈yx s,(∀c∈q,val c.2≤val tp)/\val (cN (q.map (·.2)))≤val tp*((hn:Nat):Rat):=λq hq=>by
    obtain⟨t,ht,rfl⟩:=Kc.mp hq;have ht:=Kk.mp ht;refine⟨λc hc=>?_,B1 X ht⟩;obtain⟨i,hi,rfl⟩:=Kc.mp hc;exact(yb X tq dd (Kk.mp (Kl.mp hi).1) ht).2.1
   refine⟨_,Z,.ref q,_,"tuple",true,Z,dF,Z,_,Z,cO ?_⟩;refine⟨_,Z,q,_,Z,.inr hq,Z,_,Z,jb Z ?_⟩;refine⟨_,Z,_,Z,u,sv,tp,_,240,60,Z,ru.mono t02,rsv.mono t02,di tq (by decide),wsw,by decide,_,Z,?_⟩;rw[up];refine hZ ?_;refine⟨_,Z,q,_,_,_,Z,Z,hq,Z,Z,_,Z,jb Z ?_⟩;refine⟨_,Z,_,Z,_,Z,_,Z,q,_,_,_,Z,Z,hq,Z,v,u,x,ws,hn,tp,yx s,Z,wv.mono t02,.of g,h9,ru.mono t02,tq,pl,po,le,λH3 s3=>⟨_,Z,cO ?_⟩⟩;exact⟨_,_,Z,s02.trans s3⟩
 ·rintro σ H1 ⟨x4,x5,rfl,s1⟩;exact k _ s1
theorem Cj(T:eS K mg t):bu P w K mg base dP 7 t.a_Q47 t.d_Q47 ["_law_script"] (mE K):=by
 refine T.F_Q47.ok fM (λvs H Q E h=>?_) (λcdv A outer s H vs Q E hr h=>?_)
 ·obtain⟨_,_,rfl,_⟩:=h;rfl
 obtain⟨a₀,ns,rfl,hS,hl,k⟩:=h;refine dj.ok (ae (bT KD Z (bW Z T.z_range (aa ah af aG)) (aA (i:=1) fM.nd Z (by first|exact KW Z|exact KR Z)) (ae (cz 2 fM.nd (bO (aa (cQ (Cw T) hr T.m_Q21 T.F_Q21.kp T.b_Q21 (aa (aD cf (cQ (CD T) hr T.m_Q14 T.F_Q14.kp T.b_Q14 (aa (qv 0) (aa (qv 1) af ac) ac)) (aD g9 ah (qv 1))) (aa ah af aG) aR)) (aa ah af aG) aK))) (ae (cz 3 fM.nd (cQ (Cu T) hr T.m_Q25 T.F_Q25.kp T.b_Q25 (aa (qv 2) (aa ah (aa ah af aG) aG) ac))) (ae (cz 4 fM.nd (aD cf ah (cQ (eJ T) hr T.m_Q29 T.F_Q29.kp T.b_Q29 (aa (qv 2) (aa ah af aG) ac)))) (ae (cz 5 fM.nd (cQ (Cr T) hr T.m_Q32 T.F_Q32.kp T.b_Q32 (aa (cQ (CB T) hr T.m_Q17 T.F_Q17.kp T.b_Q17 (aa (qv 3) (aa (qv 4) af ac) ac)) af aK))) (ae (cz 6 fM.nd (bO (aa (bv (aa (aD cf ah (cQ (eJ T) hr T.m_Q29 T.F_Q29.kp T.b_Q29 (aa (qv 2) (aa ah af aG) ac))) (aa (aD cf ah (cQ (eJ T) hr T.m_Q29 T.F_Q29.kp T.b_Q29 (aa (qv 2) (aa ah af aG) ac))) af aR) aR)) af bQ))) (ae (jZ (bF (aN (fP hr) (qv 5) (bv (aa ah (aa ah af aG) aG)) (aU _)) (aj (bT KD Z (cm (bO (aa (bv (aa ah (aa ah af aG) aG)) (aa (bv (aa ah (aa ah af aG) aG)) (aa (bv (aa ah (aa ah af aG) aG)) (aa (bv (aa ah (aa ah af aG) aG)) (aa (bv (aa ah (aa ah af aG) aG)) af bQ) bQ) bQ) bQ) bQ))) (aA (i:=7) fM.nd Z (by first|exact KW Z|exact KR Z)) (aj (da (gQ Lr Ly Lz cF (qv 6) (aa (cQ (j9 T) hr T.m_Q23 T.F_Q23.kp T.b_Q23 (aa (qv 5) (aa (qv 7) af ac) ac)) af aK)))))) aX)) (aj (bT KD Z (cm (qv 6)) (aA (i:=8) fM.nd Z (by first|exact KW Z|exact KR Z)) (aj (bF (cZ (cH (cQ (Ct T) hr T.m_Q26 T.F_Q26.kp T.b_Q26 (aa (qv 3) (aa (qv 4) (aa (cQ (hJ T) hr T.m_Q30 T.F_Q30.kp T.b_Q30 (aa (bL ay (qv 8) ah) (aa (bL ay (qv 8) ah) af aQ) aQ)) (aa (qv 5) af ac) aK) ac) ac)))) (aj (aM c8)) aX))))))))))) (aj (aM c8))) ?_
 nofun
 let Iv:Nat->L2.St->Hp->Prop:=λi σ H'=>∃(x1 x2 x3 x4 x5 x6 x7 x8:Option V),σ=[some (.ref a₀),x1,x2,x3,x4,x5,x6,x7,x8]/\aC H H'
 refine⟨2,Z,by decide,by decide,cG (lo:=0) (n:=2) Iv ⟨none,none,none,none,none,none,none,none,Z,aC.refl _⟩ ?_ ?_⟩
 ·rintro i σ HA hi ⟨x1,x2,x3,x4,x5,x6,x7,x8,rfl,sA⟩;rw[MM];refine⟨_,Z,_,Z,a₀,ns,i,Z,sA.seq hS,λz=>?_⟩;refine⟨_,Z,_,_,Z,Z,.inl ⟨by omega,by omega⟩,_,_,Z,Z,_,60,Z,by decide,by decide,λl nz HB sB hl0 hlB hln=>?_⟩;have s0B:=sA.trans sB;refine⟨gI,λt₁ ht=>?_⟩;have n1:l≠t₁:=λz=>by subst z;rw[hlB] at ht;cases ht
  have sC:=ai ht (.lst [.ref l,.int 0]);have T1:dM (av HB t₁ (.lst [.ref l,.int 0])) t₁ l:=⟨nz,0,zqd,sC _ _ hlB,n1,by omega,by omega⟩;have h0t:H t₁=none:=gA s0B ht;have s0C:=s0B.trans sC;generalize av HB t₁ (.lst [.ref l,.int 0])=HC at T1 s0C ⊢;have sm:∀{H1 H2:Hp},aC H H1->nO [t₁] H1 H2->aC H H2:=λa b x o e=>b x o (λz=>by rw[Ks.mp z,h0t] at e;cases e) (a x o e)
  refine⟨_,Z,t₁,l,5,7,Z,T1,by decide,by decide,by decide,by decide,λv ws HD zD T2 wv wl wg=>?_⟩;have s0D:=sm s0C zD;have wo:yg ws:=⟨by omega,wg⟩;refine⟨_,Z,t₁,l,3,Z,T2,by omega,by omega,λr xE aE bE T3=>?_⟩;have s0E:=sm s0D (nO.tp (H:=HD) (t:=t₁) (.lst xE));obtain⟨ys,et⟩:=T2.lst;have wvE:=wv.mono (aT.up (K:=K) et xE);generalize av HD t₁ (.lst xE)=HE at T3 s0E wvE ⊢;obtain⟨m,rfl⟩:=Lq aE;refine⟨_,_,Z,Z,?_⟩;dsimp only;rw[show(1:Int)+(m:Nat)=((1+m:Nat):Int) by omega];refine⟨_,Z,_,Z,v,1+m,ws,Z,wvE,wo,by omega,by omega,λu rs HF sF ru ok=>?_⟩;obtain⟨pu,xu,rfl,hpu,alu⟩:=ru;have rl:=ok.1;refine⟨pu,xu,rs,Z,hpu,alu,ok.2.1,by omega,λsv HG sG rsv wsw=>?_⟩;have sEG:=sF.trans sG;have wvG:=wvE.mono (aT.same sEG);have T4:=T3.same sEG;have s0G:=s0E.trans sEG;clear hpu alu sF sG sEG;refine⟨_,Z,t₁,l,9,Z,T4,by omega,by omega,λr1 xH a1 b1 T5=>?_⟩;have s0H:=sm s0G (nO.tp (H:=HG) (t:=t₁) (.lst xH));obtain⟨ys4,et4⟩:=T4.lst;have tu4:=aT.up (K:=K) et4 xH;have wvH:=wvG.mono tu4;have rsvH:=rsv.mono tu4;generalize av HG t₁ (.lst xH)=HH at T5 s0H wvH rsvH ⊢;refine⟨_,_,Z,Z,_,Z,t₁,l,3,Z,T5,by omega,by omega,λr2 xI a2 b2 T6=>?_⟩;have s0I:=sm s0H (nO.tp (H:=HH) (t:=t₁) (.lst xI));obtain⟨ys5,et5⟩:=T5.lst;have tu5:=aT.up (K:=K) et5 xI;have wvI:=wvH.mono tu5;have rsvI:=rsvH.mono tu5;generalize av HH t₁ (.lst xI)=HI at T6 s0I wvI rsvI ⊢;refine⟨_,_,Z,Z,gI,λpm hpm=>⟨yA,λlt hlt=>?_⟩⟩;have s7:=ai hpm (.tup [.int (1+r1),.int (1+r2)]);have s8:=ai hlt (.lst [.ref pm]);have s78:=s7.trans s8;have e8:av (av HI pm (.tup [.int (1+r1),.int (1+r2)])) lt (.lst [.ref pm]) lt=some (.lst [.ref pm]):=zqd;have p8:Dj K (av (av HI pm (.tup [.int (1+r1),.int (1+r2)])) lt (.lst [.ref pm])) (.ref pm) (dk (1+r1) (1+r2)):=⟨pm,_,_,Z,aT.same (K:=K) s8 _ _ (bH.of zqd),by omega,K9 (show(1+r2).natAbs≤3 by omega) (by decide),Z,ut (by omega) (by omega) (by omega) (by omega)⟩;have h0l:H lt=none:=gA (s0I.trans s7) hlt;have s0J:=s0I.trans s78;have wvJ:=wvI.mono (aT.same s78);have rsvJ:=rsvI.mono (aT.same s78);clear s7 s8 s78;generalize av (av HI pm (.tup [.int (1+r1),.int (1+r2)])) lt (.lst [.ref pm])=HJ at s0J wvJ rsvJ e8 p8 ⊢;refine⟨λσ H'=>∃(y7 y8:Option V) (zs:List V) (tps:List R),σ=[some (.ref a₀),some (.int (i:Nat)),some (.ref t₁),some v,some (.int ((1+m:Nat):Int)),some sv,some (.ref lt),y7,y8]/\aC H H'/\H' lt=some (.lst zs)/\cK (Dj K H') zs tps/\zs.length≤6/\iW K H' v ws/\RV K H' sv (rs.foldl fF (0,1)),?_,?_⟩
  ·refine⟨_,Z,gI,λp0 hp0=>?_⟩;have s9:=ai hp0 (.tup [.int 0,.int 1]);have r9:RV K (av HJ p0 (.tup [.int 0,.int 1])) (.ref p0) (0,1):=RV.of zqd;generalize av HJ p0 (.tup [.int 0,.int 1])=HK at s9 r9 ⊢;have t9:=aT.same (K:=K) s9;have s0K:=s0J.trans s9;have eK:=s9 _ _ e8;refine⟨dR (rs.foldl fF (0,1)),dR (0,1),(rsvJ.mono t9).deep,r9.deep,Z,Z,(by show 1≤32;decide),_,Z,?_⟩;rw[iz];by_cases c:rs.foldl fF (0,1)=(0,1)
   ·rw[decide_eq_true c];refine cO ?_;exact⟨_,_,_,_,Z,s0K,eK,.cons (p8.mono t9) .nil,(by show 1≤6;decide),wvJ.mono t9,rsvJ.mono t9⟩
   rw[decide_eq_false c];refine hZ ?_;have nw:ws≠[]:=λz=>c (by
    have:rs=[]:=LL.mp (by rw[rl,z];rfl);rw[this];rfl)
   obtain⟨r',U,F,er⟩:=ot ok nw;obtain⟨b,b0,b144,bq,r0⟩:=xD F wo LW;rw[←er] at bq r0;refine⟨gI,λq1 h1=>⟨gI,λq2 h2=>⟨gI,λq3 h3=>⟨gI,λq4 h4=>⟨gI,λq5 h5=>⟨Iq,λlb hlb=>?_⟩⟩⟩⟩⟩⟩;have z1:=ai h1 (.tup [.int 1,.int 1]);have g1:RV K _ (.ref q1) (1,1):=RV.of (zqd (H:=HK) (a:=q1) (o:=.tup [.int 1,.int 1]));generalize av HK q1 (.tup [.int 1,.int 1])=HL1 at z1 g1 h2 h3 h4 h5 hlb ⊢;have z2:=ai h2 (.tup [.int 99,.int 100]);have g2:RV K _ (.ref q2) (99,100):=RV.of (zqd (H:=HL1) (a:=q2) (o:=.tup [.int 99,.int 100]));generalize av HL1 q2 (.tup [.int 99,.int 100])=HL2 at z2 g2 h3 h4 h5 hlb ⊢;have z3:=ai h3 (.tup [.int 101,.int 100]);have g3:RV K _ (.ref q3) (101,100):=RV.of (zqd (H:=HL2) (a:=q3) (o:=.tup [.int 101,.int 100]));generalize av HL2 q3 (.tup [.int 101,.int 100])=HL3 at z3 g3 h4 h5 hlb ⊢;have z4:=ai h4 (.tup [.int 1,.int 2]);have g4:RV K _ (.ref q4) (1,2):=RV.of (zqd (H:=HL3) (a:=q4) (o:=.tup [.int 1,.int 2]));generalize av HL3 q4 (.tup [.int 1,.int 2])=HL4 at z4 g4 h5 hlb ⊢;have z5:=ai h5 (.tup [.int 2,.int 1]);have g5:RV K _ (.ref q5) (2,1):=RV.of (zqd (H:=HL4) (a:=q5) (o:=.tup [.int 2,.int 1]));generalize av HL4 q5 (.tup [.int 2,.int 1])=HL5 at z5 g5 hlb ⊢;have z6:=ai hlb (.lst [.ref q1,.ref q2,.ref q3,.ref q4,.ref q5]);have e6:av HL5 lb (.lst [.ref q1,.ref q2,.ref q3,.ref q4,.ref q5]) lb=some (.lst [.ref q1,.ref q2,.ref q3,.ref q4,.ref q5]):=zqd;have w5:=z5.trans z6;have w4:=z4.trans w5;have w3:=z3.trans w4;have w2:=z2.trans w3;have w1:=z1.trans w2;have alb:cK (RV K (av HL5 lb (.lst [.ref q1,.ref q2,.ref q3,.ref q4,.ref q5]))) [.ref q1,.ref q2,.ref q3,.ref q4,.ref q5] GE:=.cons (g1.mono (aT.same w2)) (.cons (g2.mono (aT.same w3)) (.cons (g3.mono (aT.same w4)) (.cons (g4.mono (aT.same w5)) (.cons (g5.mono (aT.same z6)) .nil))));have nlb:lb≠lt:=λz=>by rw[z] at hlb;rw[(((z1.trans z2).trans z3).trans z4).trans z5 _ _ eK] at hlb;cases hlb
   clear z1 z2 z3 z4 z5 z6 w2 w3 w4 w5 g1 g2 g3 g4 g5;generalize av HL5 lb (.lst [.ref q1,.ref q2,.ref q3,.ref q4,.ref q5])=HM at w1 e6 alb ⊢;have eM:=w1 _ _ eK;have tM:=t9.trans (aT.same w1);let Iw:Nat->L2.St->Hp->Prop:=λj σ H'=>∃(y7:Option V) (zs:List V) (tps:List R),σ=[some (.ref a₀),some (.int (i:Nat)),some (.ref t₁),some v,some (.int ((1+m:Nat):Int)),some sv,some (.ref lt),y7,x8]/\(∀b o,b≠lt->HM b=some o->H' b=some o)/\H' lt=some (.lst zs)/\cK (Dj K H') zs tps/\zs.length=1+j
   refine⟨lb,Z,⟨_,aO.of e6⟩,cU (K:=K) (a:=lb) (xs:=[.ref q1,.ref q2,.ref q3,.ref q4,.ref q5]) Iw ⟨x7,_,[dk (1+r1) (1+r2)],Z,λ_ _ _ e=>e,eM,.cons (p8.mono tM) .nil,Z⟩ (λj σ H' _ ⟨_,_,_,_,k',_⟩=>aO.of (k' _ _ nlb e6)) ?_ ?_⟩
   ·rintro j y σ HN hy ⟨y7,zs,tps,rfl,kN,eN,alN,lN⟩;obtain⟨q,hq,rq⟩:=alb.at hy;obtain⟨bqq,q0⟩:=E8 q (Ke hq);have jl:=(Kg.mp hy).1;have jl5:j<5:=jl;have tN:=aT.steps (K:=K) eM kN ⟨_,eN⟩;have ttop:=sR b0 b144 bq r0 bqq q0;refine⟨_,Z,.inl ⟨Z,_,aO.of eN⟩,_,Z,_,Z,sv,y,rs.foldl fF (0,1),q,60,60,Z,(rsvJ.mono tM).mono tN,rq.mono tN,wsw,bqq.wf (by decide) (by decide) (by decide),by decide,λpn hpn=>?_⟩;have sO:=ai hpn (.tup [.int (aJ (rs.foldl fF (0,1)) q).1,.int (aJ (rs.foldl fF (0,1)) q).2]);have pO:Dj K (av HN pn (.tup [.int (aJ (rs.foldl fF (0,1)) q).1,.int (aJ (rs.foldl fF (0,1)) q).2])) (.ref pn) (aJ (rs.foldl fF (0,1)) q):=⟨pn,_,_,Z,bH.of zqd,ttop.w60.pos,ttop.w60.bot,wU ttop.w60.red,ttop⟩;have eO:=sO _ _ eN;generalize av HN pn (.tup [.int (aJ (rs.foldl fF (0,1)) q).1,.int (aJ (rs.foldl fF (0,1)) q).2])=HO' at sO pO eO ⊢;refine⟨lt,_,_,Z,Z,eO,bf (by omega),?_⟩;have tu:=aT.up (K:=K) eO (zs++[.ref pn]);exact⟨_,zs++[.ref pn],tps++[aJ (rs.foldl fF (0,1)) q],Z,λb o nb e=>by rw[ak nb];exact sO _ _ (kN b o nb e),zqd,(alN.mono λ_ _ z=>(z.mono (aT.same sO)).mono tu).snoc (pO.mono tu),by rw[Ko,lN];rfl⟩
   ·rintro σ HN ⟨y7,zs,tps,rfl,kN,eN,alN,lN⟩;have tN:=aT.steps (K:=K) eM kN ⟨_,eN⟩;have lN':zs.length=6:=lN;refine⟨_,_,zs,tps,Z,λb o e=>kN b o (aB e h0l) (w1 _ _ (s0K _ _ e)),eN,alN,by omega,(wvJ.mono tM).mono tN,(rsvJ.mono tM).mono tN⟩
  rintro σ HK ⟨y7,y8,zs,tps,rfl,s0K,eK,alK,zl,wvK,rsvK⟩;let Iz:Nat->L2.St->Hp->Prop:=λj σ H'=>∃(y8:Option V),σ=[some (.ref a₀),some (.int (i:Nat)),some (.ref t₁),some v,some (.int ((1+m:Nat):Int)),some sv,some (.ref lt),y7,y8]/\aC HK H'
  refine⟨_,Z,lt,Z,⟨_,aO.of eK⟩,cU (K:=K) (a:=lt) (xs:=zs) Iz ⟨y8,Z,aC.refl _⟩ (λj σ H' _ ⟨_,_,s'⟩=>aO.of (s' _ _ eK)) ?_ ?_⟩
  ·rintro j y σ HN hy ⟨y8,rfl,sN⟩;obtain⟨tp,htp,p,a,b,rfl,hp,b0,bb,em,ti⟩:=alK.at hy;have tN:=aT.same (K:=K) sN;have hpN:=tN _ _ hp;refine⟨_,Z,_,Z,_,Z,p,_,_,_,Z,Z,hpN,Z,_,Z,p,_,_,_,Z,Z,hpN,Z,a,b,Z,b0,Ky bb (Li (by decide) (by decide)),λpn hpn=>?_⟩;rw[em];have sO:=ai hpn (.tup [.int tp.1,.int tp.2]);have rO:RV K (av HN pn (.tup [.int tp.1,.int tp.2])) (.ref pn) tp:=RV.of zqd;generalize av HN pn (.tup [.int tp.1,.int tp.2])=HO' at sO rO ⊢;have tO:=tN.trans (aT.same (K:=K) sO);refine⟨_,Z,v,.ref pn,sv,ws,1+m,tp,Z,wvK.mono tO,wo,by omega,by omega,rO,ti,⟨rs,ok,rsvK.mono tO,wsw⟩,λHP sP=>⟨_,Z,cO ?_⟩⟩;exact⟨_,Z,(sN.trans sO).trans sP⟩
  ·rintro σ HN ⟨y8,rfl,sN⟩;exact⟨_,_,_,_,_,_,_,_,Z,s0K.trans sN⟩
 ·rintro σ HA ⟨x1,x2,x3,x4,x5,x6,x7,x8,rfl,sA⟩;exact k _
end
set_option autoImplicit true in
set_option relaxedAutoImplicit true in
open PySem.W in
theorem all_mk{l:OpenLaw}{w:Lk}{K:Frag}{h:Kp}{mg:K1->Option Value}{fa:Addr}(X:K.In h)(G:h.Ns KO mg)(hfa:mg "law"=some (.ref fa))
  {c_Pouring:Addr} (p_Pouring:nsIn K KO "Pouring"=some (some (.ref c_Pouring))) (x1_Pouring:plainGet K c_Pouring K1.empty=true) (x2_Pouring:hasDictIn K c_Pouring=true) (x3_Pouring:plainOver K c_Pouring=true) (x4_Pouring:findIn K (.ref c_Pouring) "__setattr__"=some (some (.builtin "object.__setattr__"))) (x5_Pouring:makesIn K c_Pouring=true) (x6_Pouring:keepIn K (.ref c_Pouring)=true)
  (na_Pouring_inside:findIn K (.ref c_Pouring) "inside"=some none) (na_Pouring_most:findIn K (.ref c_Pouring) "most"=some none) (na_Pouring_whole:findIn K (.ref c_Pouring) "whole"=some none) (na_Pouring_rest:findIn K (.ref c_Pouring) "rest"=some none) (na_Pouring_room:findIn K (.ref c_Pouring) "room"=some none) (na_Pouring_poured:findIn K (.ref c_Pouring) "poured"=some none)
  {f_Q28:Addr} {d_Q28:Kh} (h_is_whole:eY K "is_whole" vd f_Q28 d_Q28)
  {f_Q8:Addr} {d_Q8:Kh} (h_is_number_of:eY K "is_number_of" Br f_Q8 d_Q8)
  {f_Q18:Addr} {d_Q18:Kh} (h_is_rising:eY K "is_rising" vq f_Q18 d_Q18)
  {f_Q2:Addr} {d_Q2:Kh} (h_greatest_divisor:eY K "greatest_divisor" Bx f_Q2 d_Q2)
  {f_Q42:Addr} {d_Q42:Kh} (h_ratio:eY K "ratio" uZ f_Q42 d_Q42)
  {f_Q46:Addr} {d_Q46:Kh} (h_plus:eY K "plus" uV f_Q46 d_Q46)
  {f_Q43:Addr} {d_Q43:Kh} (h_minus:eY K "minus" uY f_Q43 d_Q43)
  {f_Q44:Addr} {d_Q44:Kh} (h_times:eY K "times" uX f_Q44 d_Q44)
  {f_Q37:Addr} {d_Q37:Kh} (h_is_less:eY K "is_less" u4 f_Q37 d_Q37)
  {f_Q45:Addr} {d_Q45:Kh} (h_total:eY K "total" uW f_Q45 d_Q45)
  {f_Q13:Addr} {d_Q13:Kh} (h_whole_parts:eY K "whole_parts" vA f_Q13 d_Q13)
  {f_Q9:Addr} {d_Q9:Kh} (h_bound_amount:eY K "bound_amount" Bp f_Q9 d_Q9)
  {f_Q19:Addr} {d_Q19:Kh} (h_lets_much:eY K "lets_much" vo f_Q19 d_Q19)
  {f_Q38:Addr} {d_Q38:Kh} (h_plan_of:eY K "plan_of" u3 f_Q38 d_Q38)
  {f_Q20:Addr} {d_Q20:Kh} (h_hands_fit:eY K "hands_fit" vn f_Q20 d_Q20)
  {f_Q14:Addr} {d_Q14:Kh} (h_law_cell_at:eY K "_law_cell_at" vz f_Q14 d_Q14)
  {f_Q21:Addr} {d_Q21:Kh} (h_law_draws:eY K "_law_draws" vm f_Q21 d_Q21)
  {f_Q29:Addr} {d_Q29:Kh} (h_law_take:eY K "_law_take" vc f_Q29 d_Q29)
  {f_Q30:Addr} {d_Q30:Kh} (h_law_made:eY K "_law_made" vb f_Q30 d_Q30)
  {f_Q31:Addr} {d_Q31:Kh} (h_law_plus:eY K "_law_plus" va f_Q31 d_Q31)
  {f_Q22:Addr} {d_Q22:Kh} (h_law_minus:eY K "_law_minus" vi f_Q22 d_Q22)
  {f_Q23:Addr} {d_Q23:Kh} (h_law_times:eY K "_law_times" vh f_Q23 d_Q23)
  {f_Q40:Addr} {d_Q40:Kh} (h_law_by:eY K "_law_by" u0 f_Q40 d_Q40)
  {f_Q15:Addr} {d_Q15:Kh} (h_law_is_less:eY K "_law_is_less" vy f_Q15 d_Q15)
  {f_Q24:Addr} {d_Q24:Kh} (h_law_total:eY K "_law_total" vg f_Q24 d_Q24)
  {f_Q32:Addr} {d_Q32:Kh} (h_law_most:eY K "_law_most" u9 f_Q32 d_Q32)
  {f_Q25:Addr} {d_Q25:Kh} (h_law_works:eY K "_law_works" vf f_Q25 d_Q25)
  {f_Q33:Addr} {d_Q33:Kh} (h_law_busy:eY K "_law_busy" u8 f_Q33 d_Q33)
  {f_Q34:Addr} {d_Q34:Kh} (h_law_sets:eY K "_law_sets" u7 f_Q34 d_Q34)
  {f_Q16:Addr} {d_Q16:Kh} (h_law_fastest:eY K "_law_fastest" vx f_Q16 d_Q16)
  {f_Q17:Addr} {d_Q17:Kh} (h_law_speeds:eY K "_law_speeds" vw f_Q17 d_Q17)
  {f_Q6:Addr} {d_Q6:Kh} (h_law_plan_right:eY K "_law_plan_right" Bt f_Q6 d_Q6)
  {f_Q35:Addr} {d_Q35:Kh} (h_law_much:eY K "_law_much" u6 f_Q35 d_Q35)
  {f_Q36:Addr} {d_Q36:Kh} (h_law_fits:eY K "_law_fits" u5 f_Q36 d_Q36)
  {f_Q26:Addr} {d_Q26:Kh} (h_law_right:eY K "_law_right" ve f_Q26 d_Q26)
  {f_Q47:Addr} {d_Q47:Kh} (h_law:eY K "law" uU f_Q47 d_Q47)
  {f_Q10:Addr} {d_Q10:Kh} (h_Pouring_init:lY K c_Pouring "__init__" "Pouring.__init__" vD f_Q10 d_Q10)
  {f_Q7:Addr} {d_Q7:Kh} (h_Pouring_beside:lY K c_Pouring "beside" "Pouring.beside" Bs f_Q7 d_Q7)
  {f_Q4:Addr} {d_Q4:Kh} (h_Pouring_reached:lY K c_Pouring "reached" "Pouring.reached" Bv f_Q4 d_Q4)
  {f_Q3:Addr} {d_Q3:Kh} (h_Pouring_turns_of:lY K c_Pouring "turns_of" "Pouring.turns_of" Bw f_Q3 d_Q3)
  {f_Q1:Addr} {d_Q1:Kh} (h_Pouring_pour_along:lY K c_Pouring "pour_along" "Pouring.pour_along" By f_Q1 d_Q1)
  {f_Q0:Addr} {d_Q0:Kh} (h_Pouring_most_between:lY K c_Pouring "most_between" "Pouring.most_between" Bz f_Q0 d_Q0)
  {f_Q11:Addr} {d_Q11:Kh} (h_Pouring_move:lY K c_Pouring "move" "Pouring.move" vC f_Q11 d_Q11)
  {f_Q12:Addr} {d_Q12:Kh} (h_Pouring_pour:lY K c_Pouring "pour" "Pouring.pour" vB f_Q12 d_Q12)
  {f_Q5:Addr} {d_Q5:Kh} (h_Pouring_amounts:lY K c_Pouring "amounts" "Pouring.amounts" Bu f_Q5 d_Q5)
  {f_NOUGHT:Addr} {od_NOUGHT:Option Addr} {sl_NOUGHT:Array (Option Value)} {tkNOUGHT0 tkNOUGHT1:Tx} {n_NOUGHT:Nat} (p_NOUGHT:nsIn K KO "NOUGHT"=some (some (.ref f_NOUGHT))) (l_NOUGHT:K.lookup f_NOUGHT=some ⟨.type "tuple",od_NOUGHT,.seq #[.int (0) tkNOUGHT0,.int (1) tkNOUGHT1] n_NOUGHT,sl_NOUGHT⟩)
  {tkTURNS:Tx} (p_TURNS:nsIn K KO "TURNS"=some (some (.int (24) tkTURNS)))
  {tkFITS:Tx} (p_FITS:nsIn K KO "FITS"=some (some (.str "fits" tkFITS)))
  {tkMUCH:Tx} (p_MUCH:nsIn K KO "MUCH"=some (some (.str "much" tkMUCH)))
  {c_Q27:Addr} (p_Q27:nsIn K KO "PaceError"=some (some (.ref c_Q27)))
  {c_Q41:Addr} (p_Q41:nsIn K KO "NoMuch"=some (some (.ref c_Q41)))
  {c_Q39:Addr} (p_Q39:nsIn K KO "NoRatio"=some (some (.ref c_Q39)))
  (z_abs:nsIn K KO "abs"=some none)
  (z_all:nsIn K KO "all"=some none)
  (z_bool:nsIn K KO "bool"=some none)
  (z_enumerate:nsIn K KO "enumerate"=some none)
  (z_int:nsIn K KO "int"=some none)
  (z_isinstance:nsIn K KO "isinstance"=some none)
  (z_len:nsIn K KO "len"=some none)
  (z_list:nsIn K KO "list"=some none)
  (z_min:nsIn K KO "min"=some none)
  (z_range:nsIn K KO "range"=some none)
  (z_set:nsIn K KO "set"=some none)
  (z_sorted:nsIn K KO "sorted"=some none)
  (z_sum:nsIn K KO "sum"=some none)
  (z_tuple:nsIn K KO "tuple"=some none)
  : ∃fd:Kh,(∀(s:Ka) (v:Value),Qo s fd ⟨[v],[]⟩ [("_law_script",v)])/\∀base:Kp,K.In base->base.Ns KO mg->bu l.prog w K mg base dP 7 fa fd ["_law_script"] (mE K):=by
 have e:=hfa.symm.trans (mg_of X G h_law.p)
 cases e
 obtain⟨_,_,_,_,_,_,_,_,_,rfl,_,_⟩:=h_law.F.ex;have T:eS K mg ⟨f_Q28,_,f_Q8,_,f_Q18,_,f_Q2,_,f_Q42,_,f_Q46,_,f_Q43,_,f_Q44,_,f_Q37,_,f_Q45,_,f_Q13,_,f_Q9,_,f_Q19,_,f_Q38,_,f_Q20,_,f_Q14,_,f_Q21,_,f_Q29,_,f_Q30,_,f_Q31,_,f_Q22,_,f_Q23,_,f_Q40,_,f_Q15,_,f_Q24,_,f_Q32,_,f_Q25,_,f_Q33,_,f_Q34,_,f_Q16,_,f_Q17,_,f_Q6,_,f_Q35,_,f_Q36,_,f_Q26,_,fa,_,f_Q10,_,f_Q7,_,f_Q4,_,f_Q3,_,f_Q1,_,f_Q0,_,f_Q11,_,f_Q12,_,f_Q5,_,c_Pouring,f_NOUGHT,tkTURNS,tkFITS,tkMUCH,c_Q27,c_Q41,c_Q39⟩:={
  F_Q28:=h_is_whole.F,b_Q28:=h_is_whole.b1,m_Q28:=mg_of X G h_is_whole.p,
  F_Q8:=h_is_number_of.F,b_Q8:=h_is_number_of.b2,m_Q8:=mg_of X G h_is_number_of.p,
  F_Q18:=h_is_rising.F,b_Q18:=h_is_rising.b2,m_Q18:=mg_of X G h_is_rising.p,
  F_Q2:=h_greatest_divisor.F,b_Q2:=h_greatest_divisor.b2,m_Q2:=mg_of X G h_greatest_divisor.p,
  F_Q42:=h_ratio.F,b_Q42:=h_ratio.b2,m_Q42:=mg_of X G h_ratio.p,
  F_Q46:=h_plus.F,b_Q46:=h_plus.b2,m_Q46:=mg_of X G h_plus.p,
  F_Q43:=h_minus.F,b_Q43:=h_minus.b2,m_Q43:=mg_of X G h_minus.p,
  F_Q44:=h_times.F,b_Q44:=h_times.b2,m_Q44:=mg_of X G h_times.p,
  F_Q37:=h_is_less.F,b_Q37:=h_is_less.b2,m_Q37:=mg_of X G h_is_less.p,
  F_Q45:=h_total.F,b_Q45:=h_total.b1,m_Q45:=mg_of X G h_total.p,
  F_Q13:=h_whole_parts.F,b_Q13:=h_whole_parts.b1,m_Q13:=mg_of X G h_whole_parts.p,
  F_Q9:=h_bound_amount.F,b_Q9:=h_bound_amount.b3,m_Q9:=mg_of X G h_bound_amount.p,
  F_Q19:=h_lets_much.F,b_Q19:=h_lets_much.b4,m_Q19:=mg_of X G h_lets_much.p,
  F_Q38:=h_plan_of.F,b_Q38:=h_plan_of.b1,m_Q38:=mg_of X G h_plan_of.p,
  F_Q20:=h_hands_fit.F,b_Q20:=h_hands_fit.b3,m_Q20:=mg_of X G h_hands_fit.p,
  F_Q14:=h_law_cell_at.F,b_Q14:=h_law_cell_at.b2,m_Q14:=mg_of X G h_law_cell_at.p,
  F_Q21:=h_law_draws.F,b_Q21:=h_law_draws.b2,m_Q21:=mg_of X G h_law_draws.p,
  F_Q29:=h_law_take.F,b_Q29:=h_law_take.b2,m_Q29:=mg_of X G h_law_take.p,
  F_Q30:=h_law_made.F,b_Q30:=h_law_made.b2,m_Q30:=mg_of X G h_law_made.p,
  F_Q31:=h_law_plus.F,b_Q31:=h_law_plus.b2,m_Q31:=mg_of X G h_law_plus.p,
  F_Q22:=h_law_minus.F,b_Q22:=h_law_minus.b2,m_Q22:=mg_of X G h_law_minus.p,
  F_Q23:=h_law_times.F,b_Q23:=h_law_times.b2,m_Q23:=mg_of X G h_law_times.p,
  F_Q40:=h_law_by.F,b_Q40:=h_law_by.b2,m_Q40:=mg_of X G h_law_by.p,
  F_Q15:=h_law_is_less.F,b_Q15:=h_law_is_less.b2,m_Q15:=mg_of X G h_law_is_less.p,
  F_Q24:=h_law_total.F,b_Q24:=h_law_total.b1,m_Q24:=mg_of X G h_law_total.p,
  F_Q32:=h_law_most.F,b_Q32:=h_law_most.b1,m_Q32:=mg_of X G h_law_most.p,
  F_Q25:=h_law_works.F,b_Q25:=h_law_works.b3,m_Q25:=mg_of X G h_law_works.p,
  F_Q33:=h_law_busy.F,b_Q33:=h_law_busy.b3,m_Q33:=mg_of X G h_law_busy.p,
  F_Q34:=h_law_sets.F,b_Q34:=h_law_sets.b1,m_Q34:=mg_of X G h_law_sets.p,
  F_Q16:=h_law_fastest.F,b_Q16:=h_law_fastest.b3,m_Q16:=mg_of X G h_law_fastest.p,
  F_Q17:=h_law_speeds.F,b_Q17:=h_law_speeds.b2,m_Q17:=mg_of X G h_law_speeds.p,
  F_Q6:=h_law_plan_right.F,b_Q6:=h_law_plan_right.b2,m_Q6:=mg_of X G h_law_plan_right.p,
  F_Q35:=h_law_much.F,b_Q35:=h_law_much.b4,m_Q35:=mg_of X G h_law_much.p,
  F_Q36:=h_law_fits.F,b_Q36:=h_law_fits.b4,m_Q36:=mg_of X G h_law_fits.p,
  F_Q26:=h_law_right.F,b_Q26:=h_law_right.b4,m_Q26:=mg_of X G h_law_right.p,
  F_Q47:=h_law.F,b_Q47:=h_law.b1,m_Q47:=mg_of X G h_law.p,
  F_Q10:=h_Pouring_init.F,b_Q10:=h_Pouring_init.b4,K_Pouring:=⟨x5_Pouring,h_Pouring_init.p,h_Pouring_init.fn,x6_Pouring⟩,
  F_Q7:=h_Pouring_beside.F,b_Q7:=h_Pouring_beside.b2,M_Pouring_beside:=h_Pouring_beside.meth,
  F_Q4:=h_Pouring_reached.F,b_Q4:=h_Pouring_reached.b2,M_Pouring_reached:=h_Pouring_reached.meth,
  F_Q3:=h_Pouring_turns_of.F,b_Q3:=h_Pouring_turns_of.b2,M_Pouring_turns_of:=h_Pouring_turns_of.meth,
  F_Q1:=h_Pouring_pour_along.F,b_Q1:=h_Pouring_pour_along.b3,M_Pouring_pour_along:=h_Pouring_pour_along.meth,
  F_Q0:=h_Pouring_most_between.F,b_Q0:=h_Pouring_most_between.b3,M_Pouring_most_between:=h_Pouring_most_between.meth,
  F_Q11:=h_Pouring_move.F,b_Q11:=h_Pouring_move.b4,M_Pouring_move:=h_Pouring_move.meth,
  F_Q12:=h_Pouring_pour.F,b_Q12:=h_Pouring_pour.b1,M_Pouring_pour:=h_Pouring_pour.meth,
  F_Q5:=h_Pouring_amounts.F,b_Q5:=h_Pouring_amounts.b2,M_Pouring_amounts:=h_Pouring_amounts.meth,
  m_Pouring:=mg_of X G p_Pouring,cl_Pouring:=⟨x1_Pouring,x2_Pouring,x3_Pouring,x4_Pouring⟩,n_Pouring_inside:=na_Pouring_inside,n_Pouring_most:=na_Pouring_most,n_Pouring_whole:=na_Pouring_whole,n_Pouring_rest:=na_Pouring_rest,n_Pouring_room:=na_Pouring_room,n_Pouring_poured:=na_Pouring_poured,
  m_NOUGHT:=mg_of X G p_NOUGHT,q_NOUGHT:=λH=>.inr ⟨_,_,_,l_NOUGHT,Z,Z,gI,(.cons ⟨_,Z⟩ (.cons ⟨_,Z⟩ .nil))⟩,
  m_TURNS:=mg_of X G p_TURNS,
  m_FITS:=mg_of X G p_FITS,
  m_MUCH:=mg_of X G p_MUCH,
  m_Q27:=mg_of X G p_Q27,
  m_Q41:=mg_of X G p_Q41,
  m_Q39:=mg_of X G p_Q39,
  z_abs:=mg_none_of X G z_abs,z_all:=mg_none_of X G z_all,z_bool:=mg_none_of X G z_bool,z_enumerate:=mg_none_of X G z_enumerate,z_int:=mg_none_of X G z_int,z_isinstance:=mg_none_of X G z_isinstance,z_len:=mg_none_of X G z_len,z_list:=mg_none_of X G z_list,z_min:=mg_none_of X G z_min,z_range:=mg_none_of X G z_range,z_set:=mg_none_of X G z_set,z_sorted:=mg_none_of X G z_sorted,z_sum:=mg_none_of X G z_sum,z_tuple:=mg_none_of X G z_tuple}
 exact⟨_,λs v=>.of_eq Z,λbase _ _=>Cj T⟩
theorem walk{l:SG}{loose:List K1}{XP:(K1->Option Value)->Kp->Prop}{YP:Lk->Kp->Prop}{d:DefRec}{K:Params->J5}(hn:l.most=some 63)(hdf:d.params.defaults=[])
  (hY:∀(w:Lk) (h:Kp),YP w h->(K w.params).In h)
  (F:∀(w:Lk) (mg:K1->Option Value) (fa:Addr) (h:Kp),(K w.params).In h->h.Ns KO mg->mg d.name=some (.ref fa)→
   ∃fd:Kh,(∀(s:Ka) (u:Value),Qo s fd ⟨[u],[]⟩ [("_law_script",u)])/\∀base:Kp,(K w.params).In base->base.Ns KO mg->bu l.prog w (K w.params) mg base dP 7 fa fd ["_law_script"] (mE (K w.params))):
  Tf q loose XP YP l.row.toRowW d [] (λf vs=>SX f vs):=
 L2.walk_of (n:=63) (k:=7) (x := "_law_script") (CX:=λ_=>dP) (sp:=λw=>mE (K w.params)) hn (by decide) hdf ⟨Z,by decide,by decide,Z⟩ hY F (λ_ _ a ns hl _ hS=>⟨a,ns,Z,hS,hl,λ_=>Z⟩) λ_ _ _ _ _ z=>z
end My
open PySem PySem.W PyProof.Rows
set_option maxRecDepth 100000 in
set_option maxHeartbeats 0 in
theorem PySem.Challenge.cw_paceplan_k63_fits_of_hands_holds : PySem.Challenge.rw_paceplan_k63_fits_of_hands.Holds := by
 w_on;refine HWtop ?_
 k_fill
 refine My.walk (l:=PySem.Challenge.rw_paceplan_k63_fits_of_hands) rfl rfl (fun w h Y=>PySem.W.kIn_of Y) ?F
 case F=>
  intro w mg fa h KX G hmg
  refine' My.all_mk KX G hmg ?q0 ?q1 ?q2 ?q3 ?q4 ?q5 ?q6 ?q7 ?q8 ?q9 ?q10 ?q11 ?q12 ?q13 ?q14 ?q15 ?q16 ?q17 ?q18 ?q19 ?q20 ?q21 ?q22 ?q23 ?q24 ?q25 ?q26 ?q27 ?q28 ?q29 ?q30 ?q31 ?q32 ?q33 ?q34 ?q35 ?q36 ?q37 ?q38 ?q39 ?q40 ?q41 ?q42 ?q43 ?q44 ?q45 ?q46 ?q47 ?q48 ?q49 ?q50 ?q51 ?q52 ?q53 ?q54 ?q55 ?q56 ?q57 ?q58 ?q59 ?q60 ?q61 ?q62 ?q63 ?q64 ?q65 ?q66 ?q67 ?q68 ?q69 ?q70 ?q71 ?q72 ?q73 ?q74 ?q75 ?q76 ?q77 ?q78 ?q79
  (case q0|q1|q2|q3|q4|q5|q6|q7|q8|q9|q10|q11|q12=>k_is)
  (case q13|q14|q15|q16|q17|q18|q19|q20|q21|q22|q23|q24|q25|q26|q27|q28|q29|q30|q31|q32|q33|q34|q35|q36|q37|q38|q39|q40|q41|q42|q43|q44|q45|q46|q47|q48=>refine' B.isF ?a ?b ?c ?d;(case a=>k_is);(case b=>k_is);(case c=>k_is);(case d=>k_is))
  (case q49|q50|q51|q52|q53|q54|q55|q56|q57=>refine' B.isM ?a ?e ?b ?c ?d;(case a=>k_is);(case e=>k_is);(case b=>k_is);(case c=>k_is);(case d=>k_is))
  (case q58|q59|q60|q61|q62|q63|q64|q65|q66|q67|q68|q69|q70|q71|q72|q73|q74|q75|q76|q77|q78|q79=>k_is)
